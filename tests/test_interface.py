import importlib
import inspect
import unittest

INTERFACE = {
    "rows": {"is_row": ["numbers"], "turned": ["row"], "hooks": ["row"]},
    "beads": {"beads": ["row", "many"], "row_of": ["places"], "pairs": ["places"]},
    "rods": {
        "core": ["row", "rods"], "quotient": ["row", "rods"], "is_core": ["row", "rods"], "charges": ["row", "rods"],
        "core_of": ["numbers"], "joined": ["middle", "rows", "rods"],
    },
    "counts": {
        "fillings": ["row"], "rows_of": ["many"], "many_rows": ["many"], "many_quotients": ["rods", "many"],
        "cores_of": ["many", "rods"], "many_cores": ["many", "rods"],
    },
    "rims": {"lesser": ["row", "rods"], "sign": ["row", "rods"], "ways_down": ["row", "rods"]},
    "notes": {"written": ["row"], "read": ["text"]},
}


class InterfaceTest(unittest.TestCase):
    def test_each_name_is_there_with_its_arguments(self):
        for module, functions in INTERFACE.items():
            there = importlib.import_module("rodbeads." + module)
            for name, arguments in functions.items():
                told = inspect.signature(getattr(there, name)).parameters
                self.assertEqual(list(told), arguments, (module, name))
                self.assertTrue(all(one.default is inspect.Parameter.empty for one in told.values()), (module, name))


if __name__ == "__main__":
    unittest.main()

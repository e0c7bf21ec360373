"""Rodbeads: falling rows of numbers told by beads on rods."""

import PyProof.Rows.All
import Wide.All
import OpenK.AllK
import Wide.FinOn
import Lean
import PyProof.EqAt
import PyProof.EqKinds
import PyProof.TupleCall
import KE.KTryMore
import PyProof.ExcArgsOwn
import KE.KIntText
import PyProof.Rows.StrNews
import PyProof.Rows.StrWeight2
import PyProof.StrLawsTight
import PyProof.StrLawsChain
import PyProof.Rows.Range3
import PyProof.ZipIter
import PyProof.Rows.SumAny
import PyProof.NoPylong
import PyProof.Rows.TupDisplay
import PySem.Challenge.RW_rodbeads_k15_fillings
set_option Elab.async false
set_option linter.all false
set_option maxRecDepth 100000
namespace L2
open PySem PySem.Spec PyProof.Rows

abbrev Key := Sum Int Str
def keyIs : Key → Value → Bool
  | .inl k, v => Value.isInt k v
  | .inr x, v => Value.isStrOf x v
def keyH (w : World) : Key → Int
  | .inl k => hashInt k
  | .inr x => hashStr w x
theorem keyIs_shape : ∀ {k : Key} {v : Value}, keyIs k v = true → (∃ i t, k = Sum.inl i ∧ v = Value.int i t) ∨ (∃ x t, k = Sum.inr x ∧ v = Value.str x t)
  | .inl i, v, h => by
    obtain ⟨t, e⟩ := Value.isInt_shape (k := i) (v := v) h
    exact .inl ⟨i, t, rfl, e⟩
  | .inr x, v, h => by
    obtain ⟨t, e⟩ := Value.isStrOf_shape (x := x) (v := v) h
    exact .inr ⟨x, t, rfl, e⟩
theorem keyIs_int (i : Int) (t : Tok) : keyIs (.inl i) (.int i t) = true := by simp [keyIs, Value.isInt]
theorem keyIs_str (x : Str) (t : Tok) : keyIs (.inr x) (.str x t) = true := by simp [keyIs, Value.isStrOf]
theorem key_ll (a b : Int) : decide ((Sum.inl a : Key) = Sum.inl b) = (a == b) := by
  by_cases e : a = b
  · subst e; simp
  · have h : ¬ (Sum.inl a : Key) = Sum.inl b := fun q => e (Sum.inl.inj q)
    rw [decide_eq_false h]
    exact (beq_eq_false_iff_ne.mpr e).symm
theorem key_rr (a b : Str) : decide ((Sum.inr a : Key) = Sum.inr b) = decide (a = b) := by
  by_cases e : a = b
  · subst e; simp
  · have h : ¬ (Sum.inr a : Key) = Sum.inr b := fun q => e (Sum.inr.inj q)
    rw [decide_eq_false h, decide_eq_false e]
theorem key_lr (a : Int) (b : Str) : decide ((Sum.inl a : Key) = Sum.inr b) = false := decide_eq_false (fun q => nomatch q)
theorem key_rl (a : Str) (b : Int) : decide ((Sum.inr a : Key) = Sum.inl b) = false := decide_eq_false (fun q => nomatch q)

def mixKind (prog : Program) (w : World) : PySem.KeyKind prog w Key where
  is := keyIs
  hash := keyH w
  inj := fun v a b ha hb => by
    rcases keyIs_shape ha with ⟨i, t, rfl, rfl⟩ | ⟨x, t, rfl, rfl⟩
    · rcases keyIs_shape hb with ⟨j, u, rfl, e⟩ | ⟨y, u, rfl, e⟩
      · injection e with e1 _; rw [e1]
      · exact nomatch e
    · rcases keyIs_shape hb with ⟨j, u, rfl, e⟩ | ⟨y, u, rfl, e⟩
      · exact nomatch e
      · injection e with e1 _; rw [e1]
  byValue := fun k v h => by
    rcases keyIs_shape h with ⟨i, t, rfl, rfl⟩ | ⟨x, t, rfl, rfl⟩ <;> rfl
  pyHash := fun hv h => by
    rcases keyIs_shape hv with ⟨i, t, rfl, rfl⟩ | ⟨x, t, rfl, rfl⟩
    · exact wpAny_pyHash_int h
    · exact wpAny_pyHash_str h
  eqBool := fun hu hv h => by
    rcases keyIs_shape hu with ⟨i, t, rfl, rfl⟩ | ⟨x, t, rfl, rfl⟩
    · rcases keyIs_shape hv with ⟨j, u, rfl, rfl⟩ | ⟨y, u, rfl, rfl⟩
      · rw [key_ll] at h; exact wpAny_eqBool_int h
      · rw [key_lr] at h; exact SeqAt.EqAt.int_str i t y u _ _ _ _ h
    · rcases keyIs_shape hv with ⟨j, u, rfl, rfl⟩ | ⟨y, u, rfl, rfl⟩
      · rw [key_rl] at h; exact SeqAt.EqAt.str_int x t j u _ _ _ _ h
      · rw [key_rr] at h; exact wpAny_eqBool_str h
  «strs» := fun k x t v h => by
    rcases keyIs_shape h with ⟨i, u, rfl, e⟩ | ⟨y, u, rfl, e⟩
    · exact nomatch e
    · injection e with e1 _
      subst e1
      cases v <;> rfl

theorem mixKind_int (prog : Program) (w : World) (i : Int) (t : Tok) : (mixKind prog w).is (.inl i) (.int i t) = true := keyIs_int i t
theorem mixKind_str (prog : Program) (w : World) (x : Str) (t : Tok) : (mixKind prog w).is (.inr x) (.str x t) = true := keyIs_str x t
end L2

namespace L2
open PySem PySem.Spec PyProof.Rows

inductive V where
  | non | bl (b : Bool) | int (i : Int) | str (x : Str) | byt (b : Array UInt8) | flt (b : UInt64) | ref (a : Addr) | ty (n : String)
  deriving DecidableEq

def RelV : V → Value → Prop
  | .non, u => u = Value.none
  | .bl b, u => u = Value.bool b
  | .int i, u => ∃ t, u = Value.int i t
  | .str x, u => ∃ t, u = Value.str x t
  | .byt b, u => ∃ t, u = Value.bytes b t
  | .flt b, u => ∃ t, u = Value.float b t
  | .ref a, u => u = Value.ref a
  | .ty n, u => u = Value.type n

abbrev Vals : List V → List Value → Prop := Paired RelV
theorem Vals.length {xs : List V} {us : List Value} (r : Vals xs us) : xs.length = us.length := Paired.length r
theorem Vals.get : ∀ {xs : List V} {us : List Value} {i : Nat} {x : V}, Vals xs us → xs[i]? = some x → ∃ u, us[i]? = some u ∧ RelV x u
  | _, _, _, _, .nil, e => by simp at e
  | _, _, 0, _, .cons r _, e => by simp at e; subst e; exact ⟨_, rfl, r⟩
  | _, _, i + 1, x, .cons _ t, e => by
    obtain ⟨u, h1, h2⟩ := Vals.get (i := i) (x := x) t (by simpa using e)
    exact ⟨u, by simpa using h1, h2⟩
theorem Vals.append : ∀ {xs ys : List V} {us ws : List Value}, Vals xs us → Vals ys ws → Vals (xs ++ ys) (us ++ ws)
  | _, _, _, _, .nil, s => s
  | _, _, _, _, .cons r t, s => .cons r (Vals.append t s)
theorem Vals.take : ∀ {xs : List V} {us : List Value} (n : Nat), Vals xs us → Vals (xs.take n) (us.take n)
  | _, _, 0, _ => .nil
  | _, _, _ + 1, .nil => .nil
  | _, _, n + 1, .cons r t => .cons r (Vals.take n t)
theorem Vals.drop : ∀ {xs : List V} {us : List Value} (n : Nat), Vals xs us → Vals (xs.drop n) (us.drop n)
  | _, _, 0, r => r
  | _, _, _ + 1, .nil => .nil
  | _, _, n + 1, .cons _ t => Vals.drop n t
def RelO : Option V → Option Value → Prop
  | some v, some u => RelV v u
  | none, none => True
  | _, _ => False
def KV {κ : Type} : List (κ × V) → List (κ × Value) → Prop := Paired fun (p : κ × V) (q : κ × Value) => p.1 = q.1 ∧ RelV p.2 q.2

def kV : Key → V
  | .inl i => .int i
  | .inr x => .str x

inductive HO where
  /-- a list -/
  | lst (xs : List V)
  /-- a tuple (never changes) -/
  | tup (xs : List V)
  /-- a dict whose keys are ints and texts; one whose keys are tuples of ints and texts (the empty one is both) -/
  | dK (kvs : List (Key × V)) | dT (kvs : List (List Key × V))
  /-- a set of ints: its members, its size -/
  | set (S : Int → Bool) (n : Nat)
  /-- an instance of the class at C, its dict at dx, its attributes -/
  | ins (C dx : Addr) (fs : List (Str × V))
  /-- the dict of the instance at x -/
  | own (x : Addr)
  /-- the dict of an exception -/
  | xd (fs : List (Str × V))
  /-- a bound method, f of x -/
  | met (f x : Addr)
  /-- a range object lo, lo + 1, .. below hi -/
  | rng (lo hi : Int)
  /-- a thing that is known to the object (the script; a dict while a loop walks it): read, never written while it is so -/
  | frz (o : Obj) (u : HO)
  /-- a code object's table -/
  | tbl (ps : Array Value)
  /-- any other thing, by what is true of its one object (a def of one's own: SetO a S n := HO.ext fun h => ..) -/
  | ext (φ : Heap → Prop)

abbrev Hp := Addr → Option HO
def upd (H : Hp) (a : Addr) (o : HO) : Hp := fun b => if b = a then some o else H b
theorem upd_same {H : Hp} {a : Addr} {o : HO} : upd H a o a = some o := by unfold upd; rw [if_pos rfl]
theorem upd_ne {H : Hp} {a b : Addr} {o : HO} (h : b ≠ a) : upd H a o b = H b := by unfold upd; rw [if_neg h]
theorem ne_of {H : Hp} {a b : Addr} {o u : HO} (h : H a = some o) (h' : H b = some u) (d : o ≠ u) : a ≠ b := by
  intro e; subst e; rw [h] at h'; exact d (Option.some.inj h')
theorem ne_of_none {H : Hp} {a b : Addr} {o : HO} (h : H a = some o) (h' : H b = none) : a ≠ b := by
  intro e; subst e; rw [h] at h'; cases h'

section
variable (P : Program) (w : World)
def ObjOk (H : Hp) (h : Heap) (a : Addr) : HO → Prop
  | .lst xs => xs.length ≤ sizeLine ∧ ∃ (its : List Value) (n : Nat), Vals xs its ∧ h.get? a = some { cls := .type "list", data := .seq its.toArray n }
  | .tup xs => xs.length ≤ sizeLine ∧ ∃ its : List Value, Vals xs its ∧ IsTup h a its.toArray
  | .dK kvs => kvs.length ≤ sizeLine ∧ (a == sysModules) = false ∧ ∃ vs, KV kvs vs ∧ h.DictOf (mixKind P w) a vs
  | .dT kvs => kvs.length ≤ sizeLine ∧ (a == sysModules) = false ∧ ∃ xs : List (List Key × Addr × Value),
      Paired (fun (p : List Key × V) (q : List Key × Addr × Value) => p.1 = q.1 ∧ H q.2.1 = some (.tup (p.1.map kV)) ∧ RelV p.2 q.2.2) kvs xs ∧
      ∃ o es ep, h.get? a = some o ∧ o.ExactDict ∧ o.data = .dict es ep ∧ es.toList = xs.map (entryOfKey (tupleKind (mixKind P w))) ∧ (xs.map (·.1)).Nodup
  | .set S n => h.SetOf (intKind P w) a S n
  | .ins C dx fs => H dx = some (.own a) ∧ fs.length ≤ 1000 ∧ dx ≠ a ∧ h.get? a = some (PySem.W.instObj C dx) ∧
      ∃ mA, h.Ns1 dx mA ∧ (∀ f, RelO (fs.lookup f) (mA f)) ∧ PySem.Within mA (fs.map (·.1))
  | .own _ => ∃ o, h.get? a = some o
  | .xd fs => ∃ mA, h.Ns1 a mA ∧ ∀ f, RelO (fs.lookup f) (mA f)
  | .rng lo hi => ∃ t u v, h.get? a = some { cls := .type "range", data := .fields #[.int lo t, .int hi u, .int 1 v] }
  | .frz o u => h.get? a = some o ∧ ObjOk H h a u
  | .tbl ps => h.get? a = some { cls := .none, data := .fields ps }
  | .met f x => h.get? a = some (PySem.W.methodObj (.ref f) (.ref x))
  | .ext φ => φ h ∧ (∃ o, h.get? a = some o) ∧ ∀ h1 h2 : Heap, φ h1 → (∀ o, h1.get? a = some o → h2.get? a = some o) → φ h2
def HOk (H : Hp) (h : Heap) : Prop := ∀ a o, H a = some o → ObjOk P w H h a o
end

section
variable {P : Program} {w : World} {H H' : Hp} {h h' : Heap} {a : Addr} {o : HO}
theorem ObjOk.lt (x : ObjOk P w H h a o) : a < h.objs.size := by
  cases o with
  | lst xs => obtain ⟨_, _, _, _, e⟩ := x; exact Heap.lt_size e
  | tup xs => obtain ⟨_, _, _, p⟩ := x; exact p.lt
  | dK kvs => obtain ⟨_, _, _, _, o, _, _, e, _⟩ := x; exact Heap.lt_size e
  | dT kvs => obtain ⟨_, _, _, _, o, _, _, e, _⟩ := x; exact Heap.lt_size e
  | set S n => obtain ⟨o, _, _, _, e, _⟩ := x; exact Heap.lt_size e
  | ins C dx fs => obtain ⟨_, _, _, e, _⟩ := x; exact Heap.lt_size e
  | own y => obtain ⟨_, e⟩ := x; exact Heap.lt_size e
  | xd fs => obtain ⟨_, ⟨_, _, _, e, _⟩, _⟩ := x; exact Heap.lt_size e
  | rng lo hi => obtain ⟨_, _, _, e⟩ := x; exact Heap.lt_size e
  | frz ob u => obtain ⟨e, _⟩ := x; exact Heap.lt_size e
  | tbl ps => exact Heap.lt_size (show h.get? a = some _ from x)
  | met f y => exact Heap.lt_size (show h.get? a = some _ from x)
  | ext φ => obtain ⟨_, ⟨_, e⟩, _⟩ := x; exact Heap.lt_size e
theorem Paired.mapP {α β : Type} {F G : α → β → Prop} : ∀ {l₁ : List α} {l₂ : List β}, Paired F l₁ l₂ → (∀ a b, F a b → G a b) → Paired G l₁ l₂
  | _, _, .nil, _ => .nil
  | _, _, .cons r t, f => .cons (f _ _ r) (Paired.mapP t f)
theorem ObjOk.stay (x : ObjOk P w H h a o) (k : ∀ b u, (b = a ∨ H b = some (.own a)) → h.get? b = some u → h'.get? b = some u)
    (ho : ∀ b, H b = some (.own a) → H' b = some (.own a)) (ht : ∀ b xs, H b = some (.tup xs) → H' b = some (.tup xs)) : ObjOk P w H' h' a o := by
  induction o with
  | lst xs => obtain ⟨z, its, n, r, e⟩ := x; exact ⟨z, its, n, r, k _ _ (.inl rfl) e⟩
  | tup xs => obtain ⟨z, its, r, ob, e, c⟩ := x; exact ⟨z, its, r, ob, k _ _ (.inl rfl) e, c⟩
  | dK kvs => obtain ⟨z, y, vs, r, ob, es, ep, e, c⟩ := x; exact ⟨z, y, vs, r, ob, es, ep, k _ _ (.inl rfl) e, c⟩
  | dT kvs =>
    obtain ⟨z, y, xs, r, ob, es, ep, e, c⟩ := x
    exact ⟨z, y, xs, Paired.mapP r fun p q z => ⟨z.1, ht _ _ z.2.1, z.2.2⟩, ob, es, ep, k _ _ (.inl rfl) e, c⟩
  | set S n => obtain ⟨ob, es, ep, t, e, c⟩ := x; exact ⟨ob, es, ep, t, k _ _ (.inl rfl) e, c⟩
  | ins C dx fs =>
    obtain ⟨d, z, ne, e, mA, ⟨od, es, ep, e2, c⟩, r⟩ := x
    exact ⟨ho _ d, z, ne, k _ _ (.inl rfl) e, mA, ⟨od, es, ep, k _ _ (.inr d) e2, c⟩, r⟩
  | own y => obtain ⟨ob, e⟩ := x; exact ⟨ob, k _ _ (.inl rfl) e⟩
  | xd fs => obtain ⟨mA, ⟨od, es, ep, e, c⟩, r⟩ := x; exact ⟨mA, ⟨od, es, ep, k _ _ (.inl rfl) e, c⟩, r⟩
  | rng lo hi => obtain ⟨t, u, v, e⟩ := x; exact ⟨t, u, v, k _ _ (.inl rfl) e⟩
  | frz ob u ih => obtain ⟨e, q⟩ := x; exact ⟨k _ _ (.inl rfl) e, ih q⟩
  | tbl ps =>
    have e : h.get? a = some { cls := .none, data := .fields ps } := x
    show h'.get? a = some { cls := .none, data := .fields ps }
    exact k a _ (.inl rfl) e
  | met f y =>
    have e : h.get? a = some (PySem.W.methodObj (.ref f) (.ref y)) := x
    show h'.get? a = some (PySem.W.methodObj (.ref f) (.ref y))
    exact k a _ (.inl rfl) e
  | ext φ => obtain ⟨p, ⟨o, e⟩, st⟩ := x; exact ⟨st _ _ p fun o q => k _ _ (.inl rfl) q, ⟨o, k _ _ (.inl rfl) e⟩, st⟩
theorem HOk.lt (x : HOk P w H h) (e : H a = some o) : a < h.objs.size := (x a o e).lt
theorem HOk.fresh (x : HOk P w H h) (e : h.objs.size ≤ a) : H a = none := by
  cases q : H a with
  | none => rfl
  | some u => exact absurd (Nat.lt_of_lt_of_le (x.lt q) e) (Nat.lt_irrefl _)
theorem HOk.kept (x : HOk P w H h) (k : ∀ b u, h.get? b = some u → h'.get? b = some u) : HOk P w H h' := fun a o e =>
  (x a o e).stay (fun b u _ q => k b u q) (fun _ q => q) fun _ _ q => q
theorem HOk.laid (x : HOk P w H h) (k : ∀ b u, h.get? b = some u → h'.get? b = some u) (hp : h.objs.size ≤ a) (new : ObjOk P w (upd H a o) h' a o) : HOk P w (upd H a o) h' := fun b u e => by
  have hn := x.fresh hp
  by_cases hb : b = a
  · subst hb; rw [upd_same] at e; cases e; exact new
  · rw [upd_ne hb] at e
    exact (x b u e).stay (fun c v _ q => k c v q) (fun c q => by rw [upd_ne (ne_of_none q hn)]; exact q) fun c xs q => by rw [upd_ne (ne_of_none q hn)]; exact q
end

def Rd (H : Hp) (a : Addr) (u : HO) : Prop := H a = some u ∨ ∃ o, H a = some (.frz o u)
theorem Rd.ok {P : Program} {w : World} {H : Hp} {h : Heap} {a : Addr} {u : HO} (r : Rd H a u) (x : HOk P w H h) : ObjOk P w H h a u := by
  rcases r with r | ⟨o, r⟩
  · exact x a u r
  · obtain ⟨_, q⟩ := x a _ r
    exact q
def Mut : Option HO → Prop
  | some (.lst _) => True
  | some (.dK _) => True
  | some (.dT _) => True
  | some (.set _ _) => True
  | some (.ins _ _ _) => True
  | some (.ext _) => True
  | _ => False
section
variable {P : Program} {w : World} {H : Hp} {h h' : Heap} {x e : Addr} {o' : HO}
theorem HOk.write (ok : HOk P w H h) (mu : Mut (H x)) (he : e = x ∨ H e = some (.own x)) (k : ∀ b u, b ≠ e → h.get? b = some u → h'.get? b = some u) (heo : ∃ u, h'.get? e = some u)
    (new : ObjOk P w (upd H x o') h' x o') : HOk P w (upd H x o') h' := fun b u q => by
  have nown : ∀ c y, H c = some (.own y) → c ≠ x := fun c y r z => by subst z; rw [r] at mu; exact mu
  have ntup : ∀ c xs, H c = some (.tup xs) → c ≠ x := fun c xs r z => by subst z; rw [r] at mu; exact mu
  by_cases hb : b = x
  · subst hb; rw [upd_same] at q; cases q; exact new
  · rw [upd_ne hb] at q
    by_cases hbe : b = e
    · have q' : H b = some (.own x) := by
        rcases he with z | z
        · exact absurd (hbe.trans z) hb
        · rw [hbe]; exact z
      rw [q] at q'; cases q'
      obtain ⟨v, hv⟩ := heo
      exact ⟨v, by rw [hbe]; exact hv⟩
    · refine (ok b u q).stay (fun c v hc r => k c v ?_ r) (fun c r => by rw [upd_ne (nown c b r)]; exact r) fun c xs r => by rw [upd_ne (ntup c xs r)]; exact r
      rcases hc with rfl | hc
      · exact hbe
      · rintro rfl
        rcases he with z | z
        · exact nown c b hc z
        · rw [hc] at z; cases z; exact hb rfl
end

structure Un (fs ex : List Addr) (H H' : Hp) (h h' : Heap) : Prop where
  keep : ∀ b o, h.get? b = some o → H b = none → b ∉ fs → b ∉ ex → h'.get? b = some o
  slot : ∀ b o, h.get? b = some o → H b = none → b ∈ fs → b ∉ ex → ∃ sl, h'.get? b = some { o with slots := sl }
  free : ∀ b o, h.get? b = some o → H b = none → b ∉ ex → H' b = none
  there : ∀ b o, h.get? b = some o → b ∉ ex → ∃ o', h'.get? b = some o'
  tups : ∀ b xs, H b = some (.tup xs) → H' b = some (.tup xs)
  frzs : ∀ b o u, H b = some (.frz o u) → H' b = some (.frz o u)
  tbls : ∀ b ps, H b = some (.tbl ps) → ∃ more, H' b = some (.tbl (ps ++ more))
section
variable {fs fs' ex ex' : List Addr} {H H1 H2 : Hp} {h h1 h2 h' : Heap} {a x e : Addr} {o : HO}
theorem Un.any (u : Un fs ex H H1 h h1) {b : Addr} {ob : Obj} (q : h.get? b = some ob) (n : H b = none) (hx : b ∉ ex) : ∃ sl, h1.get? b = some { ob with slots := sl } := by
  by_cases hb : b ∈ fs
  · exact u.slot b ob q n hb hx
  · exact ⟨ob.slots, u.keep b ob q n hb hx⟩
theorem Un.kept (k : ∀ b u, h.get? b = some u → h'.get? b = some u) : Un fs ex H H h h' :=
  ⟨fun b ob q _ _ _ => k b ob q, fun b ob q _ _ _ => ⟨ob.slots, k b ob q⟩, fun _ _ _ n _ => n, fun b ob q _ => ⟨ob, k b ob q⟩, fun _ _ q => q, fun _ _ _ q => q, fun _ ps q => ⟨#[], by rw [q]; simp⟩⟩
theorem Un.refl : Un fs ex H H h h := Un.kept fun _ _ q => q
theorem Un.laid (k : ∀ b u, h.get? b = some u → h'.get? b = some u) (hp : h.objs.size ≤ a) (hn : H a = none) : Un fs ex H (upd H a o) h h' where
  keep := fun b u q _ _ _ => k b u q
  slot := fun b u q _ _ _ => ⟨u.slots, k b u q⟩
  free := fun b u q n _ => by rw [upd_ne (Nat.ne_of_lt (Nat.lt_of_lt_of_le (Heap.lt_size q) hp))]; exact n
  there := fun b u q _ => ⟨u, k b u q⟩
  tups := fun b xs q => by rw [upd_ne (ne_of_none q hn)]; exact q
  frzs := fun b u xs q => by rw [upd_ne (ne_of_none q hn)]; exact q
  tbls := fun b ps q => ⟨#[], by rw [upd_ne (ne_of_none q hn), q]; simp⟩
theorem Un.write (mu : Mut (H x)) (he : e = x ∨ H e = some (.own x)) (k : ∀ b u, b ≠ e → h.get? b = some u → h'.get? b = some u) (heo : ∃ u, h'.get? e = some u) : Un fs ex H (upd H x o) h h' := by
  have hx : ∀ b, H b = none → b ≠ x := fun b n z => by subst z; rw [n] at mu; exact mu
  have hb : ∀ b, H b = none → b ≠ e := fun b n z => by
    subst z
    rcases he with r | r
    · exact hx b n r
    · rw [n] at r; cases r
  have hm : ∀ b u, H b = some u → ¬ Mut (some u) → b ≠ x := fun b u q nm z => by subst z; rw [q] at mu; exact nm mu
  refine ⟨fun b u q n _ _ => k b u (hb b n) q, fun b u q n _ _ => ⟨u.slots, k b u (hb b n) q⟩, fun b u q n _ => by rw [upd_ne (hx b n)]; exact n, fun b u q _ => ?_,
    fun b xs q => by rw [upd_ne (hm b _ q fun z => z)]; exact q, fun b u xs q => by rw [upd_ne (hm b _ q fun z => z)]; exact q, fun b ps q => ⟨#[], by rw [upd_ne (hm b _ q fun z => z), q]; simp⟩⟩
  by_cases hbe : b = e
  · subst hbe; exact heo
  · exact ⟨u, k b u hbe q⟩
end

def trk (h : Heap) (H : Hp) : List Addr := (List.range h.objs.size).filter fun a => (H a).isSome
def hidT (h : Heap) (H : Hp) : Heap := PySem.W.hideAll h (trk h H)
theorem hidT_size (h : Heap) (H : Hp) : (hidT h H).objs.size = h.objs.size := PySem.W.hideAll_size _ _
theorem hidT_get {h : Heap} {H : Hp} {b : Addr} {o : Obj} (e : h.get? b = some o) (n : H b = none) : (hidT h H).get? b = some o :=
  PySem.W.hideAll_get _ e fun hm => by
    have q : (H b).isSome = true := (List.mem_filter.mp hm).2
    rw [n] at q; simp at q
theorem of_hidT {h : Heap} {H : Hp} {b : Addr} {o : Obj} (e : (hidT h H).get? b = some o) : h.get? b = some o ∧ H b = none := by
  have e' : h.get? b = some o := PySem.W.of_hideAll (trk h H) e
  refine ⟨e', ?_⟩
  cases q : H b with
  | none => rfl
  | some x =>
    have hm : b ∈ trk h H := List.mem_filter.mpr ⟨List.mem_range.mpr (Heap.lt_size e'), by simp [q]⟩
    have z : (hidT h H).get? b = none := PySem.W.hideAll_none (trk h H) hm
    rw [z] at e; cases e

end L2

namespace L2
open PySem PySem.Spec PyProof.Rows

structure Mod (K : PySem.W.Frag) (mg : Str → Option Value) (base : Heap) : Prop where
  kin : K.In base
  glob : base.Ns mainGlobals mg
  blt : ∃ mb, base.Ns builtinsNs mb ∧ ∀ x : Str, x ≠ "__name__" → mb x = bootBuiltins x
  nolimit : base.NoLimit

structure Cx where
  prog : Program
  w : World
  K : PySem.W.Frag
  mg : Str → Option Value
  base : Heap
  A : Around
  N : List Str
  s₀ : Shared
  H₀ : Hp
  env : Env
  outer : List Env
  stack : List Env
  ex : List Addr
  fn : Str → Bool
  calm : Bool
  pn : List (Addr × Obj)
  xe : Value → Shared → Prop
def frs (l : List Env) : List Addr := l.filterMap (·.frame)
abbrev Cx.fs (X : Cx) : List Addr := frs X.outer

def Vis (sc : Scope) (x : Str) : Prop := sc.names.lookup x = some .local ∨ sc.names.lookup x = some .cell ∨ sc.names.lookup x = some .free
def Loc (sc : Scope) (x : Str) : Prop := sc.names.lookup x = some .local ∨ sc.names.lookup x = some .cell
def Look (env : Env) (h : Heap) (m : Str → Option Value) (x : Str) (u : Value) : Prop :=
  (env.kindOf x = some .local ∧ m x = some u) ∨ ((env.kindOf x = some .cell ∨ env.kindOf x = some .free) ∧ ∃ c, env.cells.lookup x = some c ∧ h.IsCell c (some u))

structure Cx.Ok (X : Cx) : Prop where
  mod : Mod X.K X.mg X.base
  kind : X.env.scope.kind = .function
  glob : X.env.globals = mainGlobals
  blt : X.env.builtins = builtinsNs
  above : X.s₀.heap.objs.size ≤ X.env.locals
  inj : ∀ x y c, X.env.cells.lookup x = some c → X.env.cells.lookup y = some c → x = y
  has : ∀ x, (X.env.kindOf x = some .cell ∨ X.env.kindOf x = some .free) → ∃ c, X.env.cells.lookup x = some c
  cab : ∀ x c, X.fn x = true → X.env.cells.lookup x = some c → X.s₀.heap.objs.size ≤ c
  hd : X.calm = true → X.A.handled = none
  frames : X.A.frames = some X.stack
  stk : X.stack = X.outer ∨ (X.stack = X.env :: X.outer ∧ X.env.frame = some X.env.locals)
  exf : ∀ b ∈ X.ex, b ≠ X.env.locals ∧ ∀ x c, X.env.cells.lookup x = some c → c ≠ b
  bs : ∀ b o, X.base.get? b = some o → X.s₀.heap.get? b = some o ∧ X.H₀ b = none
  bsz : X.base.objs.size ≤ X.s₀.heap.objs.size
  noex : ∀ b o, X.base.get? b = some o → b ∉ X.ex
  exfs : ∀ b ∈ X.ex, b ∉ X.fs
  funs : X.s₀.heap.FunFrames X.base X.outer
  frf : ∀ b ∈ X.fs, X.H₀ b = none

structure Inv (X : Cx) (pins : List (Addr × Obj)) (σ : List (Option V)) (H : Hp) (s : Shared) : Prop where
  ok : X.Ok
  os : s.os = X.s₀.os
  bare : AllBare s.gens
  base : Un X.fs X.ex X.H₀ H X.s₀.heap s.heap
  loc : ∃ m, s.heap.Ns X.env.locals m ∧ ∀ (i : Nat) (x : Str) (v : V), X.N[i]? = some x → σ[i]? = some (some v) → Vis X.env.scope x → ∃ u, RelV v u ∧ Look X.env s.heap m x u
  cell : ∀ x c, X.env.cells.lookup x = some c → ∃ v, s.heap.IsCell c v
  free : H X.env.locals = none
  freeC : ∀ x c, X.env.cells.lookup x = some c → H c = none
  pin : ∀ p ∈ X.pn ++ pins, s.heap.get? p.1 = some p.2 ∧ H p.1 = none ∧ p.1 ≠ X.env.locals ∧ p.1 ∉ X.fs ∧ ∀ v, p.2.data ≠ .cell v
  hok : HOk X.prog X.w H s.heap
  len : σ.length = X.N.length

section
variable {X : Cx} {pins : List (Addr × Obj)} {σ : List (Option V)} {H H' : Hp} {s : Shared} {h' : Heap}

theorem Cx.Ok.nofr (ok : X.Ok) {b : Addr} {o : Obj} (e : X.base.get? b = some o) : b ∉ X.fs := fun hb => by
  have := (ok.funs.mem hb).1
  rw [e] at this; cases this
theorem Inv.bs (I : Inv X pins σ H s) : ∀ b o, X.base.get? b = some o → s.heap.get? b = some o ∧ H b = none := fun b o e =>
  ⟨I.base.keep b o (I.ok.bs b o e).1 (I.ok.bs b o e).2 (I.ok.nofr e) (I.ok.noex b o e), I.base.free b o (I.ok.bs b o e).1 (I.ok.bs b o e).2 (I.ok.noex b o e)⟩
theorem Inv.bk (I : Inv X pins σ H s) : ∀ b o, X.base.get? b = some o → s.heap.get? b = some o := fun b o e => (I.bs b o e).1
theorem Inv.mod (I : Inv X pins σ H s) : Mod X.K X.mg X.base := I.ok.mod
theorem Inv.kIn (I : Inv X pins σ H s) : X.K.In s.heap := I.ok.mod.kin.keeps I.bk
theorem Inv.lt (I : Inv X pins σ H s) : X.env.locals < s.heap.objs.size := let ⟨_, hn, _⟩ := I.loc; hn.lt
theorem Inv.sz (I : Inv X pins σ H s) : X.s₀.heap.objs.size ≤ s.heap.objs.size := Nat.le_trans I.ok.above (Nat.le_of_lt I.lt)
theorem Inv.nofs (I : Inv X pins σ H s) {a : Addr} (h : s.heap.objs.size ≤ a) : a ∉ X.fs := fun hb => by
  obtain ⟨_, o, ho, _⟩ := I.ok.funs.mem hb
  exact absurd (Nat.lt_of_lt_of_le (Heap.lt_size ho) (Nat.le_trans I.sz h)) (Nat.lt_irrefl _)
theorem Inv.cne (I : Inv X pins σ H s) : ∀ x c, X.env.cells.lookup x = some c → c ≠ X.env.locals := fun x c e z => by
  obtain ⟨v, o, ho, hd⟩ := I.cell x c e
  obtain ⟨m, ⟨o', es, ep, ho', hd', _⟩, _⟩ := I.loc
  rw [z, ho'] at ho; cases ho; rw [hd'] at hd; cases hd
theorem Inv.funs (I : Inv X pins σ H s) : s.heap.FunFrames X.base X.outer := by
  have all : ∀ (l : List Env), (∀ b ∈ frs l, b ∈ X.fs) → X.s₀.heap.FunFrames X.base l → s.heap.FunFrames X.base l := by
    intro l
    induction l with
    | nil => intro _ _; trivial
    | cons env r ih =>
      intro hs hl
      obtain ⟨hk, ⟨L, o, hf, hn, ho, hd⟩, hr⟩ := hl
      have hL : L ∈ X.fs := hs L (by unfold frs; rw [List.filterMap_cons, hf]; exact List.mem_cons_self)
      obtain ⟨sl, e⟩ := I.base.slot L o ho (I.ok.frf L hL) hL fun z => I.ok.exfs L z hL
      exact ⟨hk, ⟨L, _, hf, hn, e, hd⟩, ih (fun b hb => hs b (by unfold frs; rw [List.filterMap_cons, hf]; exact List.mem_cons_of_mem _ hb)) hr⟩
  exact all X.outer (fun _ hb => hb) I.ok.funs

theorem Inv.stack (I : Inv X pins σ H s) : s.heap.FunFrames X.base X.stack := by
  rcases I.ok.stk with e | ⟨e, hf⟩
  · rw [e]; exact I.funs
  · rw [e]
    obtain ⟨m, hn, _⟩ := I.loc
    refine .cons (by rw [I.ok.kind]; decide) hf hn ?_ I.funs
    exact Heap.get?_none_of_le (Nat.le_trans I.ok.bsz I.ok.above)
theorem Inv.stkSub (I : Inv X pins σ H s) : ∀ b ∈ frs X.stack, b ∈ X.env.locals :: X.fs := fun b hb => by
  rcases I.ok.stk with e | ⟨e, hf⟩
  · rw [e] at hb; exact List.mem_cons_of_mem _ hb
  · rw [e] at hb
    unfold frs at hb
    rw [List.filterMap_cons, hf] at hb
    exact hb
theorem Inv.stkFree (I : Inv X pins σ H s) : ∀ b ∈ frs X.stack, H b = none := fun b hb => by
  rcases List.mem_cons.mp (I.stkSub b hb) with e | hb
  · rw [e]; exact I.free
  · obtain ⟨_, o, ho, _⟩ := I.ok.funs.mem hb
    exact I.base.free b o ho (I.ok.frf b hb) fun z => I.ok.exfs b z hb

theorem Inv.step {g' : Array GenState} {t' : Nat} {d' : Drawn} {ch : List Addr} (I : Inv X pins σ H s)
    (hch : ∀ b ∈ ch, (b ∈ X.ex ∨ X.s₀.heap.objs.size ≤ b) ∧ b ≠ X.env.locals ∧ (∀ x c, X.env.cells.lookup x = some c → c ≠ b) ∧ ∀ p ∈ X.pn ++ pins, p.1 ≠ b)
    (keep : ∀ b o, b ≠ X.env.locals → b ∉ X.fs → b ∉ ch → s.heap.get? b = some o → H b = none → h'.get? b = some o)
    (slot : ∀ b o, b ≠ X.env.locals → b ∈ X.fs → b ∉ ch → s.heap.get? b = some o → H b = none → ∃ sl, h'.get? b = some { o with slots := sl }) (free : ∀ b o, b ∉ ch → s.heap.get? b = some o → H b = none → H' b = none)
    (there : ∀ b o, b ∉ ch → s.heap.get? b = some o → ∃ o', h'.get? b = some o')
    (tups : ∀ b xs, H b = some (.tup xs) → H' b = some (.tup xs)) (frzs : ∀ b o u, H b = some (.frz o u) → H' b = some (.frz o u)) (tbls : ∀ b ps, H b = some (.tbl ps) → ∃ more, H' b = some (.tbl (ps ++ more)))
    (ns : ∀ m, s.heap.Ns X.env.locals m → h'.Ns X.env.locals m) (hok : HOk X.prog X.w H' h') (hg : AllBare g') :
    Inv X pins σ H' { s with heap := h', gens := g', drawn := d', toks := t' } := by
  have neL : ∀ b o, X.s₀.heap.get? b = some o → b ≠ X.env.locals := fun b o e => Nat.ne_of_lt (Nat.lt_of_lt_of_le (Heap.lt_size e) I.ok.above)
  have neC : ∀ b o, X.s₀.heap.get? b = some o → b ∉ X.ex → b ∉ ch := fun b o e hx hb => by
    rcases (hch b hb).1 with z | z
    · exact hx z
    · exact absurd (Nat.lt_of_lt_of_le (Heap.lt_size e) z) (Nat.lt_irrefl _)
  have cellK : ∀ x c, X.env.cells.lookup x = some c → ∀ v, s.heap.IsCell c v → h'.IsCell c v := fun x c e v ⟨o, ho, hd⟩ => by
    have nch : c ∉ ch := fun z => (hch c z).2.2.1 x c e rfl
    by_cases hc : c ∈ X.fs
    · obtain ⟨sl, q⟩ := slot c o (I.cne x c e) hc nch ho (I.freeC x c e)
      exact ⟨_, q, hd⟩
    · exact ⟨o, keep c o (I.cne x c e) hc nch ho (I.freeC x c e), hd⟩
  refine ⟨I.ok, I.os, hg, ⟨fun b o e n hb hx => ?_, fun b o e n hb hx => ?_, fun b o e n hx => ?_, fun b o e hx => ?_, fun b xs e => tups b xs (I.base.tups b xs e), fun b o xs e => frzs b o xs (I.base.frzs b o xs e), fun b ps e => ?_⟩, ?_, fun x c e => ?_, ?_, fun x c e => ?_, fun p hp => ?_, hok, I.len⟩
  · exact keep b o (neL b o e) hb (neC b o e hx) (I.base.keep b o e n hb hx) (I.base.free b o e n hx)
  · obtain ⟨sl, e1⟩ := I.base.slot b o e n hb hx
    obtain ⟨sl', e2⟩ := slot b _ (neL b o e) hb (neC b o e hx) e1 (I.base.free b o e n hx)
    exact ⟨sl', e2⟩
  · obtain ⟨o', e1⟩ := I.base.there b o e hx
    exact free b o' (neC b o e hx) e1 (I.base.free b o e n hx)
  · obtain ⟨o', e1⟩ := I.base.there b o e hx
    exact there b o' (neC b o e hx) e1
  · obtain ⟨m1, e1⟩ := I.base.tbls b ps e
    obtain ⟨m2, e2⟩ := tbls b _ e1
    exact ⟨m1 ++ m2, by rw [e2, Array.append_assoc]⟩
  · obtain ⟨m, hn, hl⟩ := I.loc
    refine ⟨m, ns m hn, fun i x v e1 e2 e3 => ?_⟩
    obtain ⟨u, r, l⟩ := hl i x v e1 e2 e3
    refine ⟨u, r, ?_⟩
    rcases l with l | ⟨k, c, e, z⟩
    · exact .inl l
    · exact .inr ⟨k, c, e, cellK x c e _ z⟩
  · obtain ⟨v, z⟩ := I.cell x c e
    exact ⟨v, cellK x c e v z⟩
  · obtain ⟨m, ⟨o, _, _, ho, _⟩, _⟩ := I.loc
    exact free _ o (fun z => (hch _ z).2.1 rfl) ho I.free
  · obtain ⟨v, o, ho, hd⟩ := I.cell x c e
    exact free c o (fun z => (hch c z).2.2.1 x c e rfl) ho (I.freeC x c e)
  · obtain ⟨e, n, ne, nf, d⟩ := I.pin p hp
    have nch : p.1 ∉ ch := fun z => (hch p.1 z).2.2.2 p hp rfl
    exact ⟨keep p.1 p.2 ne nf nch e n, free p.1 p.2 nch e n, ne, nf, d⟩
theorem Inv.un {t' : Nat} (I : Inv X pins σ H s) (u : Un X.fs [] H H' s.heap h') (hok : HOk X.prog X.w H' h') : Inv X pins σ H' { s with heap := h', toks := t' } := by
  obtain ⟨m, ⟨o, es, ep, ho, r⟩, _⟩ := id I.loc
  obtain ⟨sl, hL⟩ := u.any ho I.free (by simp)
  exact I.step (g' := s.gens) (d' := s.drawn) (ch := []) (fun _ z => nomatch z) (fun b o _ hb _ e n => u.keep b o e n hb (by simp)) (fun b o _ hb _ e n => u.slot b o e n hb (by simp)) (fun b o _ e n => u.free b o e n (by simp)) (fun b o _ e => u.there b o e (by simp)) u.tups u.frzs u.tbls (fun m' hm => by
    obtain ⟨o', es', ep', ho', r'⟩ := hm
    rw [ho] at ho'; cases ho'
    exact ⟨_, es', ep', hL, r'⟩) hok I.bare
theorem Inv.call {g' : Array GenState} {t' : Nat} {d' : Drawn} {ch : List Addr} (I : Inv X pins σ H s) (u : Un (frs X.stack) ch H H' s.heap h') (hok : HOk X.prog X.w H' h') (hg : AllBare g')
    (hch : ∀ b ∈ ch, (b ∈ X.ex ∨ X.s₀.heap.objs.size ≤ b) ∧ b ≠ X.env.locals ∧ (∀ x c, X.env.cells.lookup x = some c → c ≠ b) ∧ ∀ p ∈ X.pn ++ pins, p.1 ≠ b) :
    Inv X pins σ H' { s with heap := h', gens := g', drawn := d', toks := t' } := by
  obtain ⟨m, ⟨o, es, ep, ho, r⟩, _⟩ := id I.loc
  obtain ⟨sl, hL⟩ := u.any ho I.free fun z => (hch _ z).2.1 rfl
  exact I.step (ch := ch) hch (fun b o hL hb hc e n => u.keep b o e n (fun z => (List.mem_cons.mp (I.stkSub b z)).elim hL hb) hc) (fun b o _ _ hc e n => u.any e n hc) (fun b o hc e n => u.free b o e n hc) (fun b o hc e => u.there b o e hc) u.tups u.frzs u.tbls (fun m' hm => by
    obtain ⟨o', es', ep', ho', r'⟩ := hm
    rw [ho] at ho'; cases ho'
    exact ⟨_, es', ep', hL, r'⟩) hok hg
theorem Inv.turned {t' : Nat} {it : Addr} (I : Inv X pins σ H s) (k : ∀ b o, b ≠ it → s.heap.get? b = some o → h'.get? b = some o) (hn : H it = none) (hL : it ≠ X.env.locals)
    (h1 : it ∈ X.ex ∨ X.s₀.heap.objs.size ≤ it) (h2 : ∀ x c, X.env.cells.lookup x = some c → c ≠ it) (h3 : ∀ p ∈ X.pn ++ pins, p.1 ≠ it) : Inv X pins σ H { s with heap := h', toks := t' } := by
  have nit : ∀ b u, H b = some u → b ≠ it := fun b u e z => by rw [z, hn] at e; cases e
  refine I.step (g' := s.gens) (d' := s.drawn) (ch := [it]) (fun b hb => ?_) (fun b o _ _ hc e _ => k b o (fun z => hc (by simp [z])) e) (fun b o _ _ hc e _ => ⟨o.slots, k b o (fun z => hc (by simp [z])) e⟩) (fun _ _ _ _ n => n)
    (fun b o hc e => ⟨o, k b o (fun z => hc (by simp [z])) e⟩) (fun _ _ e => e) (fun _ _ _ e => e) (fun b ps e => ⟨#[], by rw [e]; simp⟩) (fun m hm => ?_) (fun b u e => ?_) I.bare
  · have e : b = it := by simpa using hb
    subst e
    exact ⟨h1, hL, h2, h3⟩
  · obtain ⟨o, es, ep, ho, r⟩ := hm
    exact ⟨o, es, ep, k _ o (Ne.symm hL) ho, r⟩
  · refine (I.hok b u e).stay (fun c v hc q => k c v ?_ q) (fun _ q => q) fun _ _ q => q
    rcases hc with z | z
    · rw [z]; exact nit b u e
    · exact nit c _ z
theorem Inv.tok (I : Inv X pins σ H s) (t : Nat) : Inv X pins σ H { s with toks := t } := I.un (h' := s.heap) (t' := t) Un.refl I.hok
theorem Inv.kept {t' : Nat} (I : Inv X pins σ H s) (k : ∀ b u, s.heap.get? b = some u → h'.get? b = some u) : Inv X pins σ H { s with heap := h', toks := t' } := I.un (Un.kept k) (I.hok.kept k)
theorem Inv.laid {a : Addr} {o : HO} {t' : Nat} (I : Inv X pins σ H s) (k : ∀ b u, s.heap.get? b = some u → h'.get? b = some u) (hp : s.heap.objs.size ≤ a) (new : ObjOk X.prog X.w (upd H a o) h' a o) :
    Inv X pins σ (upd H a o) { s with heap := h', toks := t' } := I.un (Un.laid k hp (I.hok.fresh hp)) (I.hok.laid k hp new)
theorem Inv.write {x e : Addr} {o : HO} {t' : Nat} (I : Inv X pins σ H s) (mu : Mut (H x)) (he : e = x ∨ H e = some (.own x)) (k : ∀ b u, b ≠ e → s.heap.get? b = some u → h'.get? b = some u) (heo : ∃ u, h'.get? e = some u)
    (new : ObjOk X.prog X.w (upd H x o) h' x o) : Inv X pins σ (upd H x o) { s with heap := h', toks := t' } := I.un (Un.write mu he k heo) (I.hok.write mu he k heo new)
theorem Inv.pins_of {pins' : List (Addr × Obj)} (I : Inv X pins σ H s) (h : ∀ p ∈ pins', s.heap.get? p.1 = some p.2 ∧ H p.1 = none ∧ p.1 ≠ X.env.locals ∧ p.1 ∉ X.fs ∧ ∀ v, p.2.data ≠ .cell v) : Inv X pins' σ H s :=
  ⟨I.ok, I.os, I.bare, I.base, I.loc, I.cell, I.free, I.freeC, fun p hp => (List.mem_append.mp hp).elim (fun z => I.pin p (List.mem_append_left _ z)) (h p), I.hok, I.len⟩

theorem nodup_ix {N : List Str} (hN : N.Nodup) {i j : Nat} {x : Str} (a : N[i]? = some x) (b : N[j]? = some x) : i = j := by
  obtain ⟨h1, e1⟩ := List.getElem?_eq_some_iff.mp a
  obtain ⟨h2, e2⟩ := List.getElem?_eq_some_iff.mp b
  exact (List.getElem_inj hN).mp (e1.trans e2.symm)

theorem store_ok2 {M : Model} {A : Around} {E : Value → Shared → Prop} {i : Nat} {x : Str} {v : V} {u : Value} {Q : Unit → Shared → Prop} (I : Inv X pins σ H s) (hN : X.N.Nodup) (hi : X.N[i]? = some x) (hx : Loc X.env.scope x) (r : RelV v u)
    (h : ∀ s', Inv X pins (σ.set i (some v)) H s' → (∃ a, Heap.SameBut a s.heap s'.heap ∧ (a = X.env.locals ∨ X.env.cells.lookup x = some a)) → Q () s') (hf : X.fn x = true ∨ X.env.scope.names.lookup x = some .local := by first | exact .inl rfl | exact .inr rfl | assumption) : wpAny M A (storeName X.env x u) Q E s := by
  obtain ⟨m, hn, hl⟩ := id I.loc
  have hcls : (X.env.scope.kind == .class || (X.env.scope.kind == .module && X.env.locals != X.env.globals)) = false := by rw [I.ok.kind]; rfl
  have hiσ : i < σ.length := by rw [I.len]; exact (List.getElem?_eq_some_iff.mp hi).1
  have cne := I.cne
  have tracked : ∀ {a : Addr} {h' : Heap}, (∃ o, s.heap.get? a = some o ∧ H a = none) → Heap.SameBut a s.heap h' → HOk X.prog X.w H h' := fun {a h'} ha hs b ob e => by
    obtain ⟨_, _, hfree⟩ := ha
    refine (I.hok b ob e).stay (fun c w' hc q => (hs.2 c ?_).trans q) (fun _ q => q) fun _ _ q => q
    rintro rfl
    rcases hc with rfl | hc
    · rw [hfree] at e; cases e
    · rw [hfree] at hc; cases hc
  rcases hx with hk | hk
  · refine wpAny_storeName_local hk hn (fun h' hn' hs => ?_) hcls
    obtain ⟨oL, _, _, hoL, _⟩ := id hn
    refine h _ ⟨I.ok, I.os, I.bare, ⟨fun b o e n hb hx => ?_, fun b o e n hb hx => ?_, I.base.free, fun b o e hx => ?_, I.base.tups, I.base.frzs, I.base.tbls⟩, ⟨_, hn', fun j y v' e1 e2 e3 => ?_⟩, fun y c e => ?_, I.free, I.freeC, fun p hp => ?_, tracked ⟨oL, hoL, I.free⟩ hs, by simpa using I.len⟩ ⟨_, hs, .inl rfl⟩
    · exact (hs.2 b (Nat.ne_of_lt (Nat.lt_of_lt_of_le (Heap.lt_size e) I.ok.above))).trans (I.base.keep b o e n hb hx)
    · obtain ⟨sl, e1⟩ := I.base.slot b o e n hb hx
      exact ⟨sl, (hs.2 b (Nat.ne_of_lt (Nat.lt_of_lt_of_le (Heap.lt_size e) I.ok.above))).trans e1⟩
    · obtain ⟨o', e1⟩ := I.base.there b o e hx
      exact ⟨o', (hs.2 b (Nat.ne_of_lt (Nat.lt_of_lt_of_le (Heap.lt_size e) I.ok.above))).trans e1⟩
    · by_cases hj : j = i
      · subst hj
        rw [hi] at e1; cases e1
        rw [List.getElem?_set_self hiσ] at e2
        cases e2
        exact ⟨u, r, .inl ⟨hk, by simp⟩⟩
      · rw [List.getElem?_set_ne (Ne.symm hj)] at e2
        obtain ⟨u', r', q⟩ := hl j y v' e1 e2 e3
        refine ⟨u', r', ?_⟩
        rcases q with ⟨k, e⟩ | ⟨k, c, e, z⟩
        · refine .inl ⟨k, ?_⟩
          have : y ≠ x := fun e => hj (nodup_ix hN e1 (e ▸ hi))
          simp [this, e]
        · exact .inr ⟨k, c, e, z.sameBut hs (cne y c e)⟩
    · obtain ⟨w', z⟩ := I.cell y c e
      exact ⟨w', z.sameBut hs (cne y c e)⟩
    · obtain ⟨e, n, ne, nf, d⟩ := I.pin p hp
      exact ⟨(hs.2 p.1 ne).trans e, n, ne, nf, d⟩
  · have hfn : X.fn x = true := by
      rcases hf with z | z
      · exact z
      · rw [z] at hk; cases hk
    obtain ⟨c, hc⟩ := I.ok.has x (.inl hk)
    obtain ⟨w', z⟩ := I.cell x c hc
    refine wpAny_storeName_cell I.ok.kind hk hc z (fun h' hc' hs => ?_)
    obtain ⟨oc, hoc, hocd⟩ := id z
    refine h { s with heap := h' } ⟨I.ok, I.os, I.bare, ⟨fun b o e n hb hx => ?_, fun b o e n hb hx => ?_, I.base.free, fun b o e hx => ?_, I.base.tups, I.base.frzs, I.base.tbls⟩, ⟨m, hn.sameBut hs (Ne.symm (cne x c hc)), fun j y v' e1 e2 e3 => ?_⟩, fun y c' e => ?_, I.free, I.freeC, fun p hp => ?_, tracked ⟨oc, hoc, I.freeC x c hc⟩ hs, by simpa using I.len⟩ ⟨c, hs, .inr hc⟩
    · exact (hs.2 b (Nat.ne_of_lt (Nat.lt_of_lt_of_le (Heap.lt_size e) (I.ok.cab x c hfn hc)))).trans (I.base.keep b o e n hb hx)
    · obtain ⟨sl, e1⟩ := I.base.slot b o e n hb hx
      exact ⟨sl, (hs.2 b (Nat.ne_of_lt (Nat.lt_of_lt_of_le (Heap.lt_size e) (I.ok.cab x c hfn hc)))).trans e1⟩
    · obtain ⟨o', e1⟩ := I.base.there b o e hx
      exact ⟨o', (hs.2 b (Nat.ne_of_lt (Nat.lt_of_lt_of_le (Heap.lt_size e) (I.ok.cab x c hfn hc)))).trans e1⟩
    · by_cases hj : j = i
      · subst hj
        rw [hi] at e1; cases e1
        rw [List.getElem?_set_self hiσ] at e2
        cases e2
        exact ⟨u, r, .inr ⟨.inl hk, c, hc, hc'⟩⟩
      · rw [List.getElem?_set_ne (Ne.symm hj)] at e2
        obtain ⟨u', r', q⟩ := hl j y v' e1 e2 e3
        refine ⟨u', r', ?_⟩
        rcases q with q | ⟨k, c', e, z'⟩
        · exact .inl q
        · refine .inr ⟨k, c', e, z'.sameBut hs ?_⟩
          rintro rfl
          exact hj (nodup_ix hN e1 (I.ok.inj _ _ _ e hc ▸ hi))
    · by_cases hcc : c' = c
      · subst hcc; exact ⟨_, hc'⟩
      · obtain ⟨w2, z2⟩ := I.cell y c' e
        exact ⟨w2, z2.sameBut hs hcc⟩
    · obtain ⟨e, n, ne, nf, d⟩ := I.pin p hp
      refine ⟨(hs.2 p.1 ?_).trans e, n, ne, nf, d⟩
      intro q
      rw [q, hoc] at e
      have q' : oc = p.2 := Option.some.inj e
      exact d w' (by rw [← q']; exact hocd)
theorem store_ok {M : Model} {A : Around} {E : Value → Shared → Prop} {i : Nat} {x : Str} {v : V} {u : Value} {Q : Unit → Shared → Prop} (I : Inv X pins σ H s) (hN : X.N.Nodup) (hi : X.N[i]? = some x) (hx : Loc X.env.scope x) (r : RelV v u)
    (h : ∀ s', Inv X pins (σ.set i (some v)) H s' → Q () s') (hf : X.fn x = true ∨ X.env.scope.names.lookup x = some .local := by first | exact .inl rfl | exact .inr rfl | assumption) : wpAny M A (storeName X.env x u) Q E s :=
  store_ok2 I hN hi hx r (fun s' I' _ => h s' I') hf
theorem Inv.call' {s' : Shared} {ch : List Addr} (I : Inv X pins σ H s) (ho : s'.os = s.os) (u : Un (frs X.stack) ch H H' s.heap s'.heap) (hok : HOk X.prog X.w H' s'.heap) (hg : AllBare s'.gens)
    (hch : ∀ b ∈ ch, (b ∈ X.ex ∨ X.s₀.heap.objs.size ≤ b) ∧ b ≠ X.env.locals ∧ (∀ x c, X.env.cells.lookup x = some c → c ≠ b) ∧ ∀ p ∈ X.pn ++ pins, p.1 ≠ b) : Inv X pins σ H' s' := by
  obtain ⟨h', g', d', t', o'⟩ := s'
  have e : o' = s.os := ho
  subst e
  exact I.call (g' := g') (t' := t') (d' := d') u hok hg hch
end

abbrev XK := Value → Option Addr → Hp → Prop
abbrev St := List (Option V)
abbrev VK := V → Hp → Prop
abbrev TE := St → Hp → VK → Prop
abbrev TT := St → Hp → (Bool → Hp → Prop) → Prop
abbrev TA := St → Hp → (List V → Hp → Prop) → Prop
structure Ends where
  nx : St → Hp → Prop
  rt : VK
  bk : St → Hp → Prop := fun _ _ => False
  ct : St → Hp → Prop := fun _ _ => False
abbrev TS := Ends → St → Hp → Prop

def EP (X : Cx) (pins : List (Addr × Obj)) (σ : St) (Q : VK) (u : Value) (s' : Shared) : Prop := ∃ v H', Inv X pins σ H' s' ∧ RelV v u ∧ Q v H'
def TP (X : Cx) (pins : List (Addr × Obj)) (σ : St) (Q : Bool → Hp → Prop) (b : Bool) (s' : Shared) : Prop := ∃ H', Inv X pins σ H' s' ∧ Q b H'
def AP (X : Cx) (pins : List (Addr × Obj)) (σ : St) (Q : List V → Hp → Prop) (us : List Value) (s' : Shared) : Prop := ∃ vs H', Inv X pins σ H' s' ∧ Vals vs us ∧ Q vs H'
def SP (X : Cx) (pins : List (Addr × Obj)) (D : Ends) (f : Flow) (s' : Shared) : Prop :=
  match f with
  | .next => ∃ σ' H', Inv X pins σ' H' s' ∧ D.nx σ' H'
  | .brk => ∃ σ' H', Inv X pins σ' H' s' ∧ D.bk σ' H'
  | .cont => ∃ σ' H', Inv X pins σ' H' s' ∧ D.ct σ' H'
  | .ret u => ∃ v σ' H', Inv X pins σ' H' s' ∧ RelV v u ∧ D.rt v H'

def PE (X : Cx) (e : Expr) (t : TE) : Prop :=
  ∀ (pins : List (Addr × Obj)) (s : Shared) (σ : St) (H : Hp) (Q : VK), Inv X pins σ H s → t σ H Q → wpAny (model X.prog X.w) X.A (eval e X.env) (EP X pins σ Q) X.xe s
def PT (X : Cx) (e : Expr) (t : TT) : Prop :=
  ∀ (pins : List (Addr × Obj)) (s : Shared) (σ : St) (H : Hp) (Q : Bool → Hp → Prop), Inv X pins σ H s → t σ H Q → wpAny (model X.prog X.w) X.A (isTrue e X.env (eval e X.env)) (TP X pins σ Q) X.xe s
def PW (X : Cx) (e : Expr) (t : TT) : Prop :=
  ∀ (whole : Sem Value) (pins : List (Addr × Obj)) (s : Shared) (σ : St) (H : Hp) (Q : Bool → Hp → Prop), Inv X pins σ H s → t σ H Q → wpAny (model X.prog X.w) X.A (isTrue e X.env whole) (TP X pins σ Q) X.xe s
theorem PW.pt {X : Cx} {e : Expr} {t : TT} (h : PW X e t) : PT X e t := h _
def PA (X : Cx) (es : List Expr) (t : TA) : Prop :=
  ∀ (pos : Pos) (pins : List (Addr × Obj)) (s : Shared) (σ : St) (H : Hp) (Q : List V → Hp → Prop), Inv X pins σ H s → t σ H Q → wpAny (model X.prog X.w) X.A (spliced (backTo pos (starEach es X.env))) (AP X pins σ Q) X.xe s
def PS (X : Cx) (st : Stmt) (t : TS) : Prop :=
  ∀ (pins : List (Addr × Obj)) (s : Shared) (σ : St) (H : Hp) (D : Ends), Inv X pins σ H s → t D σ H → wpAny (model X.prog X.w) X.A (exec st X.env) (SP X pins D) X.xe s
def PSs (X : Cx) (st : List Stmt) (t : TS) : Prop :=
  ∀ (pins : List (Addr × Obj)) (s : Shared) (σ : St) (H : Hp) (D : Ends), Inv X pins σ H s → t D σ H → wpAny (model X.prog X.w) X.A (execs st X.env) (SP X pins D) X.xe s
theorem thn {α : Type} {t : Sem α} {Q Q' : α → Shared → Prop} {M : Model} {A : Around} {E : Value → Shared → Prop} {s : Shared} (h : wpAny M A t Q E s) (hQ : ∀ a s, Q a s → Q' a s) : wpAny M A t Q' E s := wpAny_mono h hQ fun _ _ x => x
end L2

namespace L2
open PySem PySem.Spec PyProof.Rows
section
variable {X : Cx}

def tVar (i : Nat) : TE := fun σ H Q => ∃ v, σ[i]? = some (some v) ∧ Q v H
def tC (v : V) : TE := fun _ H Q => Q v H
theorem pe_var {i : Nat} {x : Str} {pos : Pos} (hN : X.N[i]? = some x) (hv : Vis X.env.scope x) (hd : (x == ("__debug__" : Str)) = false := by decide) (hcd : (x == ("__classdict__" : Str)) = false := by decide) : PE X (.Name x pos) (tVar i) := by
  intro pins s σ H Q I h
  obtain ⟨v, e, h⟩ := h
  obtain ⟨m, hn, hl⟩ := I.loc
  obtain ⟨u, r, l⟩ := hl i x v hN e hv
  have fin : EP X pins σ Q u s := ⟨v, H, I, r, h⟩
  rcases l with ⟨hk, hm⟩ | ⟨hk, c, hc, hcell⟩
  · exact wpAny_Name (wpAny_loadName_local I.ok.kind hk hn hm fin) hd
  · rcases hk with hk | hk
    · exact wpAny_Name (wpAny_loadName_cell I.ok.kind hk hc hcell fin) hd
    · exact wpAny_Name (wpAny_loadName_free I.ok.kind hk hc hcell fin hcd) hd
theorem pe_int {i j pos} : PE X (.Constant (.int i) j pos) (tC (.int i)) := fun _ _ _ H _ I h => wpAny_Constant_int ⟨.int i, H, I.tok _, ⟨_, rfl⟩, h⟩
def Gl (X : Cx) (x : Str) : Prop := X.env.kindOf x = some .globalImplicit
theorem ld_glob {E : Value → Shared → Prop} {pins : List (Addr × Obj)} {s : Shared} {σ : St} {H : Hp} {x : Str} {u : Value} {pos : Pos} {Q : Value → Shared → Prop} (I : Inv X pins σ H s) (hg : Gl X x) (hm : X.mg x = some u) (h : Q u s)
    (hd : (x == ("__debug__" : Str)) = false := by decide) : wpAny (model X.prog X.w) X.A (eval (.Name x pos) X.env) Q E s :=
  Calls.Name_function_global I.ok.kind hg (Calls.loadGlobal_global (by rw [I.ok.glob]; exact I.mod.glob.keeps I.bk) hm h) hd
theorem ld_blt {E : Value → Shared → Prop} {pins : List (Addr × Obj)} {s : Shared} {σ : St} {H : Hp} {x : Str} {u : Value} {pos : Pos} {Q : Value → Shared → Prop} (I : Inv X pins σ H s) (hg : Gl X x) (hm : X.mg x = none) (hv : bootBuiltins x = some u) (h : Q u s)
    (hn : x ≠ "__name__" := by decide) (hd : (x == ("__debug__" : Str)) = false := by decide) : wpAny (model X.prog X.w) X.A (eval (.Name x pos) X.env) Q E s := by
  obtain ⟨mb, h1, h2⟩ := I.mod.blt
  exact Calls.Name_function_global I.ok.kind hg (Calls.loadGlobal_builtin (by rw [I.ok.glob]; exact I.mod.glob.keeps I.bk) hm (by rw [I.ok.blt]; exact h1.keeps I.bk) ((h2 x hn).trans hv) h) hd
theorem pe_bltn {x : Str} {v : V} {u : Value} {pos : Pos} (hg : Gl X x) (hm : X.mg x = none) (hv : bootBuiltins x = some u) (r : RelV v u) (hn : x ≠ "__name__" := by decide) (hd : (x == ("__debug__" : Str)) = false := by decide) : PE X (.Name x pos) (tC v) :=
  fun _ _ _ H _ I h => ld_blt I hg hm hv ⟨v, H, I, r, h⟩ hn hd

variable {a b : Expr} {ta tb : TE} {pos : Pos}
def PC (X : Cx) (op : CmpOp) (a b : Expr) (t : TE) : Prop :=
  ∀ (pins : List (Addr × Obj)) (s : Shared) (σ : St) (H : Hp) (Q : VK), Inv X pins σ H s → t σ H Q →
    wpAny (model X.prog X.w) X.A (eval a X.env) (fun v s₁ => wpAny (model X.prog X.w) X.A (eval b X.env) (fun u s₂ => wpAny (model X.prog X.w) X.A (compareOp op v u) (EP X pins σ Q) X.xe s₂) X.xe s₁) X.xe s
def tB (t : TE) : TT := fun σ H Q => t σ H fun x H1 => ∃ c, x = .bl c ∧ Q c H1
theorem pt_cmp {op : CmpOp} {t : TE} (h : PC X op a b t) (h1 : behindInMarks op b = false := by first | exact nobehind _ (by decide) (by decide) | rfl) : PT X (.Compare a [op] [b] pos) (tB t) := by
  intro pins s σ H Q I hw
  refine wpAny_isTrue_Compare1 (thn (h pins s σ H _ I hw) fun v s1 h1 => thn h1 fun u s2 h2 => thn h2 fun c s3 ⟨x, H1, I1, r1, q1⟩ => ?_) h1
  obtain ⟨d, rfl, q⟩ := q1
  cases r1
  exact wpAny_truthy_bool ⟨H1, I1, q⟩
variable {tA tB' : TT} {rest : List Expr}
def tOr (t u : TT) : TT := fun σ H Q => t σ H fun c H1 => if c = true then Q true H1 else u σ H1 Q
theorem pw_or1 (ha : PT X a tA) : PW X (.BoolOp .Or [a] pos) tA := by
  intro wh pins s σ H Q I h
  refine isTrue_or (thn (ha pins s σ H Q I h) fun c s1 e => ?_)
  cases c with
  | false => exact isTrue_or_nil e
  | true => exact e
theorem pw_or (ha : PT X a tA) (hb : PW X (.BoolOp .Or (b :: rest) pos) tB') : PW X (.BoolOp .Or (a :: b :: rest) pos) (tOr tA tB') := by
  intro wh pins s σ H Q I h
  refine isTrue_or (thn (ha pins s σ H _ I h) fun c s1 ⟨H1, I1, q1⟩ => ?_)
  cases c with
  | true => exact ⟨H1, I1, q1⟩
  | false => exact hb wh pins s1 σ H1 Q I1 q1
def tAndV (ta tb : TE) : TE := fun σ H Q => ta σ H fun x H1 => ∃ c, x = .bl c ∧ if c = true then tb σ H1 Q else Q (.bl false) H1
def tNotV (ta : TE) : TE := fun σ H Q => ta σ H fun x H1 => ∃ c, x = .bl c ∧ Q (.bl (!c)) H1
theorem pe_one {op} {t : TE} (h : PE X a t) : PE X (.BoolOp op [a] pos) t := fun pins s σ H Q I hw => BoolOp_one (h pins s σ H Q I hw)
theorem pe_and (ha : PE X a ta) (hb : PE X (.BoolOp .And (b :: rest) pos) tb) : PE X (.BoolOp .And (a :: b :: rest) pos) (tAndV ta tb) := by
  intro pins s σ H Q I h
  refine BoolOp_and (thn (ha pins s σ H _ I h) fun v s1 ⟨x, H1, I1, r1, q1⟩ => ?_)
  obtain ⟨c, rfl, q1⟩ := q1
  cases r1
  refine wpAny_truthy_bool ?_
  cases c with
  | true => exact hb pins s1 σ H1 Q I1 q1
  | false => exact ⟨.bl false, H1, I1, rfl, q1⟩
theorem pe_not (ha : PE X a ta) : PE X (.UnaryOp .Not a pos) (tNotV ta) := by
  intro pins s σ H Q I h
  refine UnaryOp_ (thn (ha pins s σ H _ I h) fun v s1 ⟨x, H1, I1, r1, q1⟩ => ?_)
  obtain ⟨c, rfl, q1⟩ := q1
  cases r1
  exact not_of (wpAny_truthy_bool ⟨.bl (!c), H1, I1, rfl, q1⟩)
def tIf (t : TT) (ta tb : TE) : TE := fun σ H Q => t σ H fun c H1 => if c = true then ta σ H1 Q else tb σ H1 Q
theorem pe_ifExp {c : Expr} (hc : PT X c tA) (ha : PE X a ta) (hb : PE X b tb) : PE X (.IfExp c a b pos) (tIf tA ta tb) := by
  intro pins s σ H Q I h
  refine wpAny_IfExp (thn (hc pins s σ H _ I h) fun d s1 ⟨H1, I1, q1⟩ => ?_)
  cases d with
  | true => exact ha pins s1 σ H1 Q I1 q1
  | false => exact hb pins s1 σ H1 Q I1 q1
end
end L2

namespace L2
open PySem PySem.Spec PyProof.Rows

def SqL (K : PySem.W.Frag) (H : Hp) (a : Addr) (xs : List V) : Prop :=
  Rd H a (.lst xs) ∨
    ∃ (o : Obj) (its : Array Value) (n : Nat), K.lookup a = some o ∧ o.cls = .type "list" ∧ o.dict = none ∧ o.data = .seq its n ∧ its.size ≤ sizeLine ∧ Vals xs its.toList
def SqT (K : PySem.W.Frag) (H : Hp) (a : Addr) (xs : List V) : Prop :=
  Rd H a (.tup xs) ∨
    ∃ (o : Obj) (its : Array Value) (n : Nat), K.lookup a = some o ∧ o.cls = .type "tuple" ∧ o.data = .seq its n ∧ its.size ≤ sizeLine ∧ Vals xs its.toList
def absV : Value → Option V
  | .none => some .non
  | .bool b => some (.bl b)
  | .int i _ => some (.int i)
  | .str x _ => some (.str x)
  | .bytes b _ => some (.byt b)
  | .float b _ => some (.flt b)
  | .ref a => some (.ref a)
  | .type n => some (.ty n)
  | _ => none
theorem RelV.abs {x : V} {u : Value} (r : RelV x u) : absV u = some x := by
  cases x with
  | non => cases r; rfl
  | bl _ => cases r; rfl
  | int _ => obtain ⟨t, rfl⟩ := r; rfl
  | str _ => obtain ⟨t, rfl⟩ := r; rfl
  | byt _ => obtain ⟨t, rfl⟩ := r; rfl
  | flt _ => obtain ⟨t, rfl⟩ := r; rfl
  | ref _ => cases r; rfl
  | ty _ => cases r; rfl
theorem RelV.inj {x y : V} {u : Value} (r : RelV x u) (q : RelV y u) : x = y := Option.some.inj (r.abs.symm.trans q.abs)
theorem Vals.inj : ∀ {xs ys : List V} {us : List Value}, Vals xs us → Vals ys us → xs = ys
  | _, _, _, .nil, .nil => rfl
  | _, _, _, .cons r t, .cons r' t' => by rw [r.inj r', Vals.inj t t']
section
variable {X : Cx} {pins : List (Addr × Obj)} {σ : St} {H : Hp} {s : Shared} {a : Addr} {xs ys : List V}
theorem SqL.of {K : PySem.W.Frag} (h : H a = some (.lst xs)) : SqL K H a xs := .inl (.inl h)
theorem Inv.list (I : Inv X pins σ H s) (h : SqL X.K H a xs) : ∃ its : List Value, Vals xs its ∧ PlainL s.heap a its.toArray ∧ xs.length ≤ sizeLine := by
  rcases h with h | ⟨o, its, n, hk, hc, hd, hs, hz, r⟩
  · obtain ⟨z, its, n, r, e⟩ := h.ok I.hok
    exact ⟨its, r, ⟨_, n, e, rfl, rfl, rfl⟩, z⟩
  · refine ⟨its.toList, r, ⟨o, n, I.kIn a o hk, hc, hd, by simpa using hs⟩, ?_⟩
    have e := r.length
    simp only [Array.length_toList] at e
    omega
theorem Inv.tuple (I : Inv X pins σ H s) (h : SqT X.K H a xs) : ∃ its : List Value, Vals xs its ∧ IsTup s.heap a its.toArray ∧ xs.length ≤ sizeLine := by
  rcases h with h | ⟨o, its, n, hk, hc, hs, hz, r⟩
  · obtain ⟨z, its, r, p⟩ := h.ok I.hok
    exact ⟨its, r, p, z⟩
  · refine ⟨its.toList, r, ⟨o, I.kIn a o hk, hc, n, by simpa using hs⟩, ?_⟩
    have e := r.length
    simp only [Array.length_toList] at e
    omega
theorem Inv.list_inj (I : Inv X pins σ H s) (h : SqL X.K H a xs) (h' : SqL X.K H a ys) : xs = ys := by
  obtain ⟨its, r, ⟨o, n, e, _, _, d⟩, _⟩ := I.list h
  obtain ⟨its', r', ⟨o', n', e', _, _, d'⟩, _⟩ := I.list h'
  rw [e] at e'; cases e'
  rw [d] at d'
  injection d' with d1 _
  have : its = its' := by simpa using congrArg Array.toList d1
  subst this
  exact r.inj r'
end

abbrev Cx.wish (X : Cx) (E : Value → Shared → Prop) : Cx := { X with xe := E }
abbrev Cx.nox (X : Cx) : Cx := X.wish fun _ _ => False
theorem Cx.Ok.wish {X : Cx} (ok : X.Ok) (E : Value → Shared → Prop) : (X.wish E).Ok :=
  ⟨ok.mod, ok.kind, ok.glob, ok.blt, ok.above, ok.inj, ok.has, ok.cab, ok.hd, ok.frames, ok.stk, ok.exf, ok.bs, ok.bsz, ok.noex, ok.exfs, ok.funs, ok.frf⟩
theorem Cx.Ok.unwish {X : Cx} {E : Value → Shared → Prop} (ok : (X.wish E).Ok) : X.Ok :=
  ⟨ok.mod, ok.kind, ok.glob, ok.blt, ok.above, ok.inj, ok.has, ok.cab, ok.hd, ok.frames, ok.stk, ok.exf, ok.bs, ok.bsz, ok.noex, ok.exfs, ok.funs, ok.frf⟩
section
variable {X : Cx} {pins : List (Addr × Obj)} {σ : St} {H : Hp} {s : Shared} {E : Value → Shared → Prop}
theorem Inv.wish (I : Inv X pins σ H s) (E : Value → Shared → Prop) : Inv (X.wish E) pins σ H s := ⟨I.ok.wish E, I.os, I.bare, I.base, I.loc, I.cell, I.free, I.freeC, I.pin, I.hok, I.len⟩
theorem Inv.unwish (I : Inv (X.wish E) pins σ H s) : Inv X pins σ H s := ⟨I.ok.unwish, I.os, I.bare, I.base, I.loc, I.cell, I.free, I.freeC, I.pin, I.hok, I.len⟩
theorem SP.unwish {D : Ends} {f : Flow} {s' : Shared} (h : SP (X.wish E) pins D f s') : SP X pins D f s' := by
  cases f with
  | next => obtain ⟨σ', H', I, q⟩ := h; exact ⟨σ', H', I.unwish, q⟩
  | brk => obtain ⟨σ', H', I, q⟩ := h; exact ⟨σ', H', I.unwish, q⟩
  | cont => obtain ⟨σ', H', I, q⟩ := h; exact ⟨σ', H', I.unwish, q⟩
  | ret u => obtain ⟨v, σ', H', I, r, q⟩ := h; exact ⟨v, σ', H', I.unwish, r, q⟩
theorem PSs.nox {st : List Stmt} {t : TS} (h : PSs X.nox st t) : PSs X st t := fun pins s σ H D I hw =>
  wpAny_mono (h pins s σ H D (I.wish _) hw) (fun _ _ q => q.unwish) fun _ _ z => False.elim z
end

section
variable {X : Cx} {st : Stmt} {rest : List Stmt} {t u : TS} {e : Expr} {te : TE} {pos : Pos}
def tNext : TS := fun D σ H => D.nx σ H
def tSeq (t u : TS) : TS := fun D σ H => t { D with nx := u D } σ H
theorem pss_nil : PSs X [] tNext := fun _ _ σ H _ I h => wpAny_execs_nil ⟨σ, H, I, h⟩
theorem pss_cons (h1 : PS X st t) (h2 : PSs X rest u) : PSs X (st :: rest) (tSeq t u) := by
  intro pins s σ H D I h
  refine wpAny_execs_cons (thn (h1 pins s σ H { D with nx := u D } I h) fun f s1 q => ?_)
  cases f with
  | next =>
    obtain ⟨σ', H', I', q⟩ := q
    exact h2 pins s1 σ' H' D I' q
  | ret v => exact q
  | brk => exact q
  | cont => exact q
theorem pss_one (h1 : PS X st t) : PSs X [st] t := by
  intro pins s σ H D I h
  refine wpAny_execs_cons (thn (h1 pins s σ H D I h) fun f s1 q => ?_)
  cases f with
  | next => exact wpAny_execs_nil q
  | ret v => exact q
  | brk => exact q
  | cont => exact q
theorem Inv.quiet {pins : List (Addr × Obj)} {σ : St} {H : Hp} {s : Shared} (I : Inv X pins σ H s) : interactive X.env = false := by simp [interactive, I.ok.kind]
def tDrop (te : TE) : TS := fun D σ H => te σ H fun _ H1 => D.nx σ H1
theorem ps_expr (he : PE X e te) (hs : swapsWith e none pos.line X.env = pure false := by rfl) : PS X (.Expr e pos) (tDrop te) := by
  intro pins s σ H D I h
  exact wpAny_Expr_any (thn (he pins s σ H _ I h) fun v s1 ⟨x, H1, I1, r1, q1⟩ => ⟨σ, H1, I1, q1⟩) I.quiet hs
def tRet (te : TE) : TS := fun D σ H => te σ H D.rt
theorem ps_ret (he : PE X e te) : PS X (.Return (some e) pos) (tRet te) := by
  intro pins s σ H D I h
  exact wpAny_Return_some (thn (he pins s σ H _ I h) fun v s1 ⟨x, H1, I1, r1, q1⟩ => ⟨x, σ, H1, I1, r1, q1⟩)
def tIfS (c : TT) (t u : TS) : TS := fun D σ H => c σ H fun b H1 => if b = true then t D σ H1 else u D σ H1
theorem ps_if {c : Expr} {a b : List Stmt} {tc : TT} (hc : PT X c tc) (ha : PSs X a t) (hb : PSs X b u) : PS X (.If c a b pos) (tIfS tc t u) := by
  intro pins s σ H D I h
  refine wpAny_If (thn (hc pins s σ H _ I h) fun d s1 ⟨H1, I1, q1⟩ => ?_)
  cases d with
  | true => exact ha pins s1 σ H1 D I1 q1
  | false => exact hb pins s1 σ H1 D I1 q1
end

abbrev TG := V → St → Hp → (St → Hp → Prop) → Prop
def PG (X : Cx) (target : Expr) (t : TG) : Prop :=
  ∀ (pins : List (Addr × Obj)) (s : Shared) (σ : St) (H : Hp) (v : V) (u : Value) (Q : St → Hp → Prop), Inv X pins σ H s → RelV v u → t v σ H Q →
    wpAny (model X.prog X.w) X.A (assign target X.env u) (fun _ s' => ∃ σ' H', Inv X pins σ' H' s' ∧ Q σ' H') X.xe s
section
variable {X : Cx} {pos : Pos}
def gName (i : Nat) : TG := fun v σ H Q => Q (σ.set i (some v)) H
theorem pg_name {i : Nat} {x : Str} (hN : X.N.Nodup) (hi : X.N[i]? = some x) (hx : Loc X.env.scope x) (hf : X.fn x = true ∨ X.env.scope.names.lookup x = some .local := by first | exact .inl rfl | exact .inr rfl | assumption) : PG X (.Name x pos) (gName i) := by
  intro pins s σ H v u Q I r h
  exact wpAny_assign_Name (store_ok I hN hi hx r (fun s' I' => ⟨_, H, I', h⟩) hf)
def tAsg (te : TE) (g : TG) : TS := fun D σ H => te σ H fun x H1 => g x σ H1 D.nx
theorem ps_set {i : Nat} {x : Str} {e : Expr} {te : TE} {pos' : Pos} (hN : X.N.Nodup) (hi : X.N[i]? = some x) (hx : Loc X.env.scope x) (he : PE X e te) (hs : swapsWith e (some (.Name x pos')) pos.line X.env = pure false := by rfl) (hf : X.fn x = true ∨ X.env.scope.names.lookup x = some .local := by first | exact .inl rfl | exact .inr rfl | assumption) :
    PS X (.Assign [.Name x pos'] e pos) (tAsg te (gName i)) := by
  intro pins s σ H D I h
  refine wpAny_Assign_Name (thn (he pins s σ H _ I h) fun v s1 ⟨y, H1, I1, r1, q1⟩ => ?_) hs
  exact store_ok I1 hN hi hx r1 (fun s2 I2 => ⟨_, H1, I2, q1⟩) hf
end

section
variable {X : Cx} {pos : Pos}
def tWhile (c : TT) (tb : TS) : TS := fun D σ H => ∃ W : Nat → St → Hp → Prop, (∃ m, W m σ H) ∧ ∀ m σ H, W m σ H →
  c σ H fun b H1 => if b = true then ∃ N : St → Hp → Prop, (∀ σ' H', N σ' H' → ∃ m', m' < m ∧ W m' σ' H') ∧ tb { D with nx := N, ct := N, bk := D.nx } σ H1 else D.nx σ H1
theorem ps_while {c : Expr} {body : List Stmt} {tc : TT} {tb : TS} (hp : PassesOwn (model X.prog X.w) X.A X.env X.xe) (hc : PT X c tc) (hb : PSs X body tb) : PS X (.While c body [] pos) (tWhile tc tb) := by
  intro pins s σ H D I h
  obtain ⟨W, ⟨m0, w0⟩, turn⟩ := h
  refine wpAny_While (codeAny_whileLoop (fun n s' => ∃ σ' H', Inv X pins σ' H' s' ∧ W n σ' H') ?_ m0 ⟨σ, H, I, w0⟩)
  rintro n s1 ⟨σ1, H1, I1, w1⟩
  refine wpAny_passesOwn hp (thn (hc pins s1 σ1 H1 _ I1 (turn n σ1 H1 w1)) fun b s2 ⟨H2, I2, q2⟩ => ?_)
  cases b with
  | true =>
    obtain ⟨N, hN, q2⟩ := q2
    rw [if_pos rfl]
    refine wpAny_passesOwn hp (thn (hb pins s2 σ1 H2 _ I2 q2) fun f s3 q3 => ?_)
    cases f with
    | next =>
      obtain ⟨σ3, H3, I3, n3⟩ := q3
      obtain ⟨m', hm, w3⟩ := hN σ3 H3 n3
      exact ⟨m', hm, σ3, H3, I3, w3⟩
    | cont =>
      obtain ⟨σ3, H3, I3, n3⟩ := q3
      obtain ⟨m', hm, w3⟩ := hN σ3 H3 n3
      exact ⟨m', hm, σ3, H3, I3, w3⟩
    | brk => exact q3
    | ret v => exact q3
  | false =>
    rw [if_neg Bool.false_ne_true]
    exact wpAny_execs_nil ⟨σ1, H2, I2, q2⟩
end

structure It where
  go : Nat → Hp → Prop
  yld : Nat → Hp → V → Hp → Prop
  stop : Nat → Hp → Prop
def FpOk (X : Cx) (pins : List (Addr × Obj)) (H : Hp) (b : Addr) : Prop :=
  H b = none ∧ b ≠ X.env.locals ∧ b ∉ X.fs ∧ (b ∈ X.ex ∨ X.s₀.heap.objs.size ≤ b) ∧ (∀ x c, X.env.cells.lookup x = some c → c ≠ b) ∧ ∀ p ∈ X.pn ++ pins, p.1 ≠ b
theorem Inv.fpOk {X : Cx} {pins : List (Addr × Obj)} {σ : St} {H H' : Hp} {s : Shared} {b : Addr} (I : Inv X pins σ H s) (hb : s.heap.objs.size ≤ b) (hn : H' b = none) : FpOk X pins H' b := by
  refine ⟨hn, Nat.ne_of_gt (Nat.lt_of_lt_of_le I.lt hb), I.nofs hb, .inr (Nat.le_trans I.sz hb), fun x c e z => ?_, fun p hp z => ?_⟩
  · obtain ⟨v, q⟩ := I.cell x c e
    exact absurd (Nat.lt_of_lt_of_le q.lt (by rw [z]; exact hb)) (Nat.lt_irrefl _)
  · exact absurd (Nat.lt_of_lt_of_le (Heap.lt_size (I.pin p hp).1) (by rw [z]; exact hb)) (Nat.lt_irrefl _)
structure Turn (P : Program) (w : World) (K : PySem.W.Frag) (tg : Expr) (J : It) (fp : List Addr) (it : Addr) (tn : Nat → Heap → Prop) : Prop where
  mem : it ∈ fp
  obj : ∀ i h, tn i h → ∀ b ∈ fp, ∃ o, h.get? b = some o ∧ ∀ v, o.data ≠ .cell v
  keep : ∀ i h h', tn i h → (∀ b ∈ fp, ∀ o, h.get? b = some o → h'.get? b = some o) → tn i h'
  item : ∀ (X : Cx), X.prog = P → X.w = w → X.K = K → X.calm = true → ∀ (i : Nat) (pins : List (Addr × Obj)) (s : Shared) (σ : St) (H : Hp) (E : Value → Shared → Prop), Inv X pins σ H s → (∀ b ∈ fp, FpOk X pins H b) → tn i s.heap → J.go i H →
    wpAny (model P w) X.A (pyNext (.ref it)) (fun r s1 => ∃ u, r = some u ∧
      wpAny (model P w) X.A (letOwnedTupleGo tg (.ref it) u) (fun _ s2 => ∃ x H', Inv X pins σ H' s2 ∧ RelV x u ∧ J.yld i H x H' ∧ tn (i + 1) s2.heap ∧ ∀ b ∈ fp, H' b = none) E s1) E s
  done : ∀ (X : Cx), X.prog = P → X.w = w → X.K = K → X.calm = true → ∀ (i : Nat) (pins : List (Addr × Obj)) (s : Shared) (σ : St) (H : Hp) (E : Value → Shared → Prop), Inv X pins σ H s → (∀ b ∈ fp, FpOk X pins H b) → tn i s.heap → J.stop i H →
    wpAny (model P w) X.A (pyNext (.ref it)) (fun r s1 => r = none ∧ Inv X pins σ H s1) E s
  self : ∀ (A : Around) (i : Nat) (s : Shared) (Q : Value → Shared → Prop) (E : Value → Shared → Prop), tn i s.heap → Q (.ref it) s → wpAny (model P w) A (pyIter (.ref it)) Q E s
abbrev TI := St → Hp → (It → Hp → Prop) → Prop
def PIE (X : Cx) (pins : List (Addr × Obj)) (σ : St) (tg : Expr) (R : It → Hp → Prop) (itv : Value) (s2 : Shared) : Prop :=
  ∃ (it : Addr) (fp : List Addr) (tn : Nat → Heap → Prop) (J : It) (H' : Hp), itv = .ref it ∧ Inv X pins σ H' s2 ∧ Turn X.prog X.w X.K tg J fp it tn ∧ tn 0 s2.heap ∧ (∀ b ∈ fp, FpOk X pins H' b) ∧ R J H'
def PI (X : Cx) (tg iter : Expr) (wi : TI) : Prop :=
  ∀ (pins : List (Addr × Obj)) (s : Shared) (σ : St) (H : Hp) (R : It → Hp → Prop), Inv X pins σ H s → wi σ H R →
    wpAny (model X.prog X.w) X.A (eval iter X.env) (fun v s1 => wpAny (model X.prog X.w) X.A (pyIter v) (PIE X pins σ tg R) X.xe s1) X.xe s

theorem go_of {M : Model} {A : Around} {E : Value → Shared → Prop} {s : Shared} {tg : Expr} {it : Addr} {u : Value} {o : Obj} {n : String} {vs : Array Value} {Q : Unit → Shared → Prop} (ho : s.heap.get? it = some o) (hc : o.cls = .type n) (hd : o.data = .fields vs)
    (hn : ["enumerate", "zip", "dict_itemiterator", "dict_reverseitemiterator", "odict_iterator", "itertools.zip_longest", "itertools.pairwise"].contains n = false) (hQ : Q () s) : wpAny M A (letOwnedTupleGo tg (.ref it) u) Q E s := by
  unfold letOwnedTupleGo
  cases tg <;> first
    | exact wpAny_pure hQ
    | (cases u <;> first
        | exact wpAny_pure hQ
        | (refine wpAny_bind (wpAny_load ho ?_)
           rw [hc, hd]
           show wpAny M A (if (["enumerate", "zip", "dict_itemiterator", "dict_reverseitemiterator", "odict_iterator", "itertools.zip_longest", "itertools.pairwise"].contains n && vs[0]? == some (rawInt _)) = true then _ else _) Q E s
           rw [if_neg (by intro h; rw [hn, Bool.false_and] at h; cases h)]
           exact wpAny_pure hQ))

def Itl (K : PySem.W.Frag) (a : Addr) : It :=
  ⟨fun i H => ∃ xs x, SqL K H a xs ∧ xs[i]? = some x, fun i H x H' => H' = H ∧ ∀ xs, SqL K H a xs → xs[i]? = some x, fun i H => ∃ xs, SqL K H a xs ∧ xs.length ≤ i⟩
def Itr (lo : Int) (n : Nat) : It := ⟨fun i _ => i < n, fun i H x H' => H' = H ∧ x = .int (lo + i), fun i _ => n ≤ i⟩
theorem turn_list {P : Program} {w : World} {K : PySem.W.Frag} {tg : Expr} (a it : Addr) : Turn P w K tg (Itl K a) [it] it (fun i h => h.IsListIter it a i) where
  mem := by simp
  obj := fun i h st b hb => by
    have e : b = it := by simpa using hb
    subst e
    obtain ⟨o, e, c, d⟩ := st
    exact ⟨o, e, fun v z => by rw [d] at z; cases z⟩
  keep := fun i h h' st k => st.at fun o e => k it (by simp) o e
  item := by
    intro X hP hw hK hc i pins s σ H E I hf st hg
    subst hP hw hK
    obtain ⟨xs, x, hq, hx⟩ := hg
    obtain ⟨its, rv, p, hz⟩ := I.list hq
    obtain ⟨u, hu, ru⟩ := rv.get hx
    obtain ⟨f0, f1, f2, f3, f4, f5⟩ := hf it (by simp)
    refine wpAny_pyNext_list_item st p.isList (x := u) (by simpa using hu) fun h' st' sb => ?_
    have I1 : Inv X pins σ H { s with heap := h' } := I.turned (t' := s.toks) (fun b o hb e => (sb.2 b hb).trans e) f0 f1 f3 f4 f5
    obtain ⟨o, e, c, d⟩ := id st'
    exact ⟨u, rfl, go_of (s := { s with heap := h' }) e c d (by decide) ⟨x, H, I1, ru, ⟨rfl, fun ys hy => by rw [I.list_inj hy hq]; exact hx⟩, st', fun b hb => (hf b hb).1⟩⟩
  done := by
    intro X hP hw hK hc i pins s σ H E I hf st hg
    subst hP hw hK
    obtain ⟨xs, hq, hx⟩ := hg
    obtain ⟨its, rv, p, hz⟩ := I.list hq
    obtain ⟨f0, f1, f2, f3, f4, f5⟩ := hf it (by simp)
    have hl := rv.length
    exact wpAny_pyNext_list_end (I.ok.hd hc) st p.isList (by simp; omega) fun h' eb => ⟨rfl, I.turned (t' := s.toks) (fun b o hb e => eb b o hb e) f0 f1 f3 f4 f5⟩
  self := fun _ _ _ _ _ st h => wpAny_pyIter_listiter st h
theorem turn_range {P : Program} {w : World} {K : PySem.W.Frag} {tg : Expr} (it : Addr) (lo : Int) (n : Nat) : Turn P w K tg (Itr lo n) [it] it (fun i h => IsRangeIter h it (lo + (i : Nat) * 1) ((n : Int) - (i : Nat)) 1) where
  mem := by simp
  obj := fun i h st b hb => by
    have e : b = it := by simpa using hb
    subst e
    exact ⟨_, st, fun v z => by
      have z' : Data.fields _ = Data.cell v := z
      cases z'⟩
  keep := fun i h h' st k => k it (by simp) _ st
  item := by
    intro X hP hw hK hc i pins s σ H E I hf st hg
    subst hP hw hK
    obtain ⟨f0, f1, f2, f3, f4, f5⟩ := hf it (by simp)
    have W := Walks.range (prog := X.prog) (w := X.w) (I.ok.hd hc) it lo 1 n
    refine W.item i s _ _ hg st fun v h' tk hv st' kk => ?_
    obtain ⟨t, rfl⟩ := hv
    have I1 : Inv X pins σ H { s with heap := h', toks := tk } := I.turned (fun b o hb e => kk b o (by simpa using hb) e) f0 f1 f3 f4 f5
    refine ⟨_, rfl, go_of (s := { s with heap := h', toks := tk }) (n := "range_iterator") st' rfl rfl (by decide) ⟨.int (lo + i), H, I1, ⟨t, ?_⟩, ⟨rfl, rfl⟩, st', fun b hb => (hf b hb).1⟩⟩
    rw [Int.mul_one]
  done := by
    intro X hP hw hK hc i pins s σ H E I hf st hg
    subst hP hw hK
    obtain ⟨f0, f1, f2, f3, f4, f5⟩ := hf it (by simp)
    exact wpAny_pyNext_range_end (I.ok.hd hc) st (by have : n ≤ i := hg; omega) fun h' eb => ⟨rfl, I.turned (t' := s.toks) (fun b o hb e => eb b o hb e) f0 f1 f3 f4 f5⟩
  self := fun _ _ _ _ _ st h => wpAny_pyIter_rangeiter st h
end L2

namespace L2
open PySem PySem.Spec PyProof.Rows
section
variable {X : Cx} {tg : Expr}
def iList (K : PySem.W.Frag) (tl : TE) : TI := fun σ H R => tl σ H fun x H1 => ∃ a, x = .ref a ∧ (∃ xs, SqL K H1 a xs) ∧ R (Itl K a) H1
theorem pi_list {l : Expr} {tl : TE} (hl : PE X l tl) : PI X tg l (iList X.K tl) := by
  intro pins s σ H R I h
  refine thn (hl pins s σ H _ I h) fun v s1 ⟨x, H1, I1, r1, q1⟩ => ?_
  obtain ⟨a, e, ⟨xs, hq⟩, q⟩ := q1
  subst e
  cases r1
  obtain ⟨its, rv, p, hz⟩ := I1.list hq
  refine wpAny_pyIter_list p.isList ?_
  refine ⟨s1.heap.objs.size, [s1.heap.objs.size], _, _, H1, rfl, I1.kept (t' := s1.toks) fun b o e => Heap.get?_push_of_some _ e, turn_list a _, ⟨_, Heap.get?_push_size _ rfl, rfl, rfl⟩, fun b hb => ?_, q⟩
  have e : b = s1.heap.objs.size := by simpa using hb
  subst e
  exact I1.fpOk (Nat.le_refl _) (I1.hok.fresh (Nat.le_refl _))
theorem range_it {pins : List (Addr × Obj)} {σ : St} {H : Hp} {s : Shared} {R : It → Hp → Prop} {E : Value → Shared → Prop} {lo hi : Int} {t u v : Tok} {tk : Nat} (I : Inv X pins σ H s) (h1 : -(2 ^ 62) ≤ lo) (h2 : lo < 2 ^ 62) (h3 : -(2 ^ 62) ≤ hi) (h4 : hi < 2 ^ 62)
    (q : R (Itr lo (hi - lo).toNat) H) : wpAny (model X.prog X.w) X.A (pyIter (.ref s.heap.objs.size)) (PIE X pins σ tg R) E { s with heap := s.heap.push { cls := .type "range", data := .fields #[.int lo t, .int hi u, .int 1 v] }, toks := tk } := by
  refine wpAny_pyIter_range (IsRange.new ..) (small_one h1 h2 h3 h4) ?_
  have I1 : Inv X pins σ H { s with heap := s.heap.push { cls := .type "range", data := .fields #[.int lo t, .int hi u, .int 1 v] }, toks := tk } := I.kept fun b o e => Heap.get?_push_of_some _ e
  refine ⟨(s.heap.push { cls := .type "range", data := .fields #[.int lo t, .int hi u, .int 1 v] }).objs.size, [(s.heap.push { cls := .type "range", data := .fields #[.int lo t, .int hi u, .int 1 v] }).objs.size], _, _, H, rfl,
    I1.kept (t' := tk) fun b o e => Heap.get?_push_of_some _ e, turn_range _ lo (hi - lo).toNat, ?_, fun b hb => ?_, q⟩
  · have e1 : lo + ((0 : Nat) : Int) * 1 = lo := by simp
    have e2 : (((hi - lo).toNat : Nat) : Int) - ((0 : Nat) : Int) = Builtin.Range.rangeSize lo hi 1 := by rw [rangeSize_one]; split <;> omega
    show IsRangeIter _ _ (lo + ((0 : Nat) : Int) * 1) ((((hi - lo).toNat : Nat) : Int) - ((0 : Nat) : Int)) 1
    rw [e1, e2]
    exact Heap.get?_push_size _ rfl
  · have e : b = (s.heap.push { cls := .type "range", data := .fields #[.int lo t, .int hi u, .int 1 v] }).objs.size := by simpa using hb
    subst e
    exact I1.fpOk (Nat.le_refl _) (I1.hok.fresh (Nat.le_refl _))
def iRng1 (ta : TA) : TI := fun σ H R => ta σ H fun vs H1 => ∃ j : Int, vs = [.int j] ∧ -(2 ^ 62) ≤ j ∧ j < 2 ^ 62 ∧ R (Itr 0 j.toNat) H1
def iRng2 (ta : TA) : TI := fun σ H R => ta σ H fun vs H1 => ∃ i j : Int, vs = [.int i, .int j] ∧ (-(2 ^ 62) ≤ i ∧ i < 2 ^ 62 ∧ -(2 ^ 62) ≤ j ∧ j < 2 ^ 62) ∧ R (Itr i (j - i).toNat) H1
theorem pi_range1 {a : Expr} {ta : TA} {p pos : Pos} (hg : Gl X "range") (hm : X.mg "range" = none) (ha : PA X [a] ta) (hs : starEach [a] X.env = [(false, eval a X.env)] := by rfl) : PI X tg (.Call (.Name "range" p) [a] [] pos) (iRng1 ta) := by
  intro pins s σ H R I h
  refine Call_ (ld_blt I hg hm boot_range (PyProof.Rows.callWith_type1 (thn (ha pos pins s σ H _ I h) fun us s1 ⟨vs, H1, I1, r1, q1⟩ => ?_) hs rfl))
  obtain ⟨j, e, q1, q2, q⟩ := q1
  subst e
  cases r1 with
  | cons r rr =>
    cases rr
    obtain ⟨t, rfl⟩ := r
    exact call_range_1 (range_it I1 (by omega) (by omega) q1 q2 (by simpa using q))
theorem pi_range2 {a b : Expr} {ta : TA} {p pos : Pos} (hg : Gl X "range") (hm : X.mg "range" = none) (ha : PA X [a, b] ta) (hs : starEach [a, b] X.env = [(false, eval a X.env), (false, eval b X.env)] := by rfl) (hs2 : starEach [b] X.env = [(false, eval b X.env)] := by rfl) :
    PI X tg (.Call (.Name "range" p) [a, b] [] pos) (iRng2 ta) := by
  intro pins s σ H R I h
  refine Call_ (ld_blt I hg hm boot_range (PyProof.Rows.callWith_type1 (thn (ha pos pins s σ H _ I h) fun us s1 ⟨vs, H1, I1, r1, q1⟩ => ?_) (by rw [hs, hs2]) (by rw [hs2]; rfl)))
  obtain ⟨i, j, e, ⟨q1, q2, q3, q4⟩, q⟩ := q1
  subst e
  cases r1 with
  | cons r rr =>
    cases rr with
    | cons r' rr =>
      cases rr
      obtain ⟨t, rfl⟩ := r
      obtain ⟨t', rfl⟩ := r'
      exact call_range_2 (range_it I1 q1 q2 q3 q4 q)

def tFor (wi : TI) (g : TG) (tb : TS) : TS := fun D σ H => wi σ H fun J H1 => ∃ W : Nat → Nat → St → Hp → Prop, (∃ m, W 0 m σ H1) ∧ ∀ i m σ H, W i m σ H →
  (J.stop i H ∧ D.nx σ H) ∨ (J.go i H ∧ ∃ N : St → Hp → Prop, (∀ σ' H', N σ' H' → ∃ m', m' < m ∧ W (i + 1) m' σ' H') ∧ ∀ x H', J.yld i H x H' → g x σ H' fun σ2 H2 => tb { D with nx := N, ct := N, bk := D.nx } σ2 H2)
def pinsAt (fp : List Addr) (h : Heap) : List (Addr × Obj) := fp.filterMap fun b => (h.get? b).map fun o => (b, o)
theorem mem_pinsAt {fp : List Addr} {h : Heap} {b : Addr} {o : Obj} (hb : b ∈ fp) (e : h.get? b = some o) : (b, o) ∈ pinsAt fp h := List.mem_filterMap.mpr ⟨b, hb, by rw [e]; rfl⟩
theorem of_pinsAt {fp : List Addr} {h : Heap} {p : Addr × Obj} (hp : p ∈ pinsAt fp h) : p.1 ∈ fp ∧ h.get? p.1 = some p.2 := by
  obtain ⟨b, hb, e⟩ := List.mem_filterMap.mp hp
  cases q : h.get? b with
  | none => rw [q] at e; cases e
  | some o =>
    rw [q] at e
    have e' : (b, o) = p := Option.some.inj e
    subst e'
    exact ⟨hb, q⟩
theorem Inv.pinned {pins : List (Addr × Obj)} {σ : St} {H : Hp} {s : Shared} {fp : List Addr} (I : Inv X pins σ H s) (hf : ∀ b ∈ fp, FpOk X pins H b) (ho : ∀ b ∈ fp, ∃ o, s.heap.get? b = some o ∧ ∀ v, o.data ≠ .cell v) : Inv X (pins ++ pinsAt fp s.heap) σ H s :=
  I.pins_of fun p hp => (List.mem_append.mp hp).elim (fun z => I.pin p (List.mem_append_right _ z)) fun z => by
    obtain ⟨hb, e⟩ := of_pinsAt z
    obtain ⟨f0, f1, f2, _⟩ := hf p.1 hb
    obtain ⟨o, e', d⟩ := ho p.1 hb
    rw [e] at e'; cases e'
    exact ⟨e, f0, f1, f2, d⟩
theorem Inv.unpinned {pins pl : List (Addr × Obj)} {σ : St} {H : Hp} {s : Shared} (I : Inv X (pins ++ pl) σ H s) : Inv X pins σ H s := I.pins_of fun p hp => I.pin p (List.mem_append_right _ (List.mem_append_left _ hp))
theorem ps_for {iter : Expr} {body : List Stmt} {wi : TI} {g : TG} {tb : TS} {pos : Pos} (hp : PassesOwn (model X.prog X.w) X.A X.env X.xe) (hc : X.calm = true) (hi : PI X tg iter wi) (hg : PG X tg g) (hb : PSs X body tb)
    (hs : ∀ x, foldedSetIterable iter X.env x = pure x := by intro _; rfl) : PS X (.For tg iter body [] pos) (tFor wi g tb) := by
  intro pins s σ H D I h
  refine wpAny_For (thn (hi pins s σ H _ I h) fun v s1 h1 => thn h1 fun itv s2 h2 => ?_) hs
  obtain ⟨it, fp, tn, J, H2, e, I2, T, st2, f2, W, ⟨m0, w0⟩, turn⟩ := h2
  subst e
  -- what stays true of the iterator's objects through the loop
  have stat : ∀ {H' : Hp}, (∀ b ∈ fp, H' b = none) → ∀ b ∈ fp, FpOk X pins H' b := fun hn b hb => ⟨hn b hb, (f2 b hb).2⟩
  refine codeAny_forLoop_any (fun n s' => ∃ i σ' H', Inv X pins σ' H' s' ∧ tn i s'.heap ∧ (∀ b ∈ fp, H' b = none) ∧ W i n σ' H') ?_ m0 ⟨0, σ, H2, I2, st2, fun b hb => (f2 b hb).1, w0⟩
  rintro n s3 ⟨i, σ3, H3, I3, st3, fr3, w3⟩
  rcases turn i n σ3 H3 w3 with ⟨stop, qn⟩ | ⟨go, N, hN, step⟩
  · refine wpAny_passesOwn hp (thn (T.done X rfl rfl rfl hc i pins s3 σ3 H3 X.xe I3 (stat fr3) st3 stop) fun r s4 ⟨hr, I4⟩ => ?_)
    subst hr
    exact wpAny_execs_nil ⟨σ3, H3, I4, qn⟩
  · refine wpAny_passesOwn hp (thn (T.item X rfl rfl rfl hc i pins s3 σ3 H3 X.xe I3 (stat fr3) st3 go) fun r s4 ⟨u, hr, h4⟩ => ?_)
    subst hr
    refine wpAny_passesOwn hp (thn h4 fun _ s5 ⟨x, H5, I5, r5, y5, st5, fr5⟩ => ?_)
    have I5' := I5.pinned (stat fr5) (T.obj _ _ st5)
    refine wpAny_passesOwn hp (thn (hg _ s5 σ3 H5 x u _ I5' r5 (step x H5 y5)) fun _ s6 ⟨σ6, H6, I6, q6⟩ => ?_)
    refine wpAny_passesOwn hp (thn (hb _ s6 σ6 H6 _ I6 q6) fun f s7 q7 => ?_)
    have again : ∀ {σ7 : St} {H7 : Hp}, Inv X (pins ++ pinsAt fp s5.heap) σ7 H7 s7 → N σ7 H7 → ∃ m, m < n ∧ ∃ i σ' H', Inv X pins σ' H' s7 ∧ tn i s7.heap ∧ (∀ b ∈ fp, H' b = none) ∧ W i m σ' H' := fun {σ7 H7} I7 n7 => by
      obtain ⟨m', hm, w7⟩ := hN σ7 H7 n7
      refine ⟨m', hm, i + 1, σ7, H7, I7.unpinned, T.keep _ _ _ st5 fun b hb o e => (I7.pin (b, o) (List.mem_append_right _ (List.mem_append_right _ (mem_pinsAt hb e)))).1, fun b hb => ?_, w7⟩
      obtain ⟨o, e, d⟩ := T.obj _ _ st5 b hb
      exact (I7.pin (b, o) (List.mem_append_right _ (List.mem_append_right _ (mem_pinsAt hb e)))).2.1
    cases f with
    | next => obtain ⟨σ7, H7, I7, n7⟩ := q7; exact again I7 n7
    | cont => obtain ⟨σ7, H7, I7, n7⟩ := q7; exact again I7 n7
    | brk => obtain ⟨σ7, H7, I7, q7⟩ := q7; exact ⟨σ7, H7, I7.unpinned, q7⟩
    | ret v => obtain ⟨x7, σ7, H7, I7, r7, q7⟩ := q7; exact ⟨x7, σ7, H7, I7.unpinned, r7, q7⟩
end

theorem for_list {K : PySem.W.Frag} {a : Addr} {xs : List V} {g : TG} {tb : TS} {D : Ends} {σ : St} {H : Hp} (Pv : Nat → St → Hp → Prop) (h0 : Pv 0 σ H) (hl : ∀ i σ H, i ≤ xs.length → Pv i σ H → SqL K H a xs)
    (hs : ∀ i x σ H, xs[i]? = some x → Pv i σ H → g x σ H fun σ2 H2 => tb { D with nx := Pv (i + 1), ct := Pv (i + 1), bk := D.nx } σ2 H2) (hd : ∀ σ H, Pv xs.length σ H → D.nx σ H) :
    ∃ W : Nat → Nat → St → Hp → Prop, (∃ m, W 0 m σ H) ∧ ∀ i m σ H, W i m σ H →
      ((Itl K a).stop i H ∧ D.nx σ H) ∨ ((Itl K a).go i H ∧ ∃ N : St → Hp → Prop, (∀ σ' H', N σ' H' → ∃ m', m' < m ∧ W (i + 1) m' σ' H') ∧ ∀ x H', (Itl K a).yld i H x H' → g x σ H' fun σ2 H2 => tb { D with nx := N, ct := N, bk := D.nx } σ2 H2) := by
  refine ⟨fun i m σ H => m = xs.length - i ∧ i ≤ xs.length ∧ Pv i σ H, ⟨xs.length, by simp, Nat.zero_le _, h0⟩, ?_⟩
  rintro i m σ H ⟨rfl, hi, p⟩
  have q := hl i σ H hi p
  by_cases hlt : i < xs.length
  · refine .inr ⟨⟨xs, xs[i], q, by simp [hlt]⟩, Pv (i + 1), fun σ' H' p' => ⟨xs.length - (i + 1), by omega, rfl, hlt, p'⟩, fun x H' y => ?_⟩
    obtain ⟨e, y⟩ := y
    subst e
    exact hs i x σ _ (y xs q) p
  · have e : i = xs.length := by omega
    subst e
    exact .inl ⟨⟨xs, q, Nat.le_refl _⟩, hd σ H p⟩
theorem for_range {lo : Int} {n : Nat} {g : TG} {tb : TS} {D : Ends} {σ : St} {H : Hp} (Pv : Nat → St → Hp → Prop) (h0 : Pv 0 σ H)
    (hs : ∀ i σ H, i < n → Pv i σ H → g (.int (lo + i)) σ H fun σ2 H2 => tb { D with nx := Pv (i + 1), ct := Pv (i + 1), bk := D.nx } σ2 H2) (hd : ∀ σ H, Pv n σ H → D.nx σ H) :
    ∃ W : Nat → Nat → St → Hp → Prop, (∃ m, W 0 m σ H) ∧ ∀ i m σ H, W i m σ H →
      ((Itr lo n).stop i H ∧ D.nx σ H) ∨ ((Itr lo n).go i H ∧ ∃ N : St → Hp → Prop, (∀ σ' H', N σ' H' → ∃ m', m' < m ∧ W (i + 1) m' σ' H') ∧ ∀ x H', (Itr lo n).yld i H x H' → g x σ H' fun σ2 H2 => tb { D with nx := N, ct := N, bk := D.nx } σ2 H2) := by
  refine ⟨fun i m σ H => m = n - i ∧ i ≤ n ∧ Pv i σ H, ⟨n, by simp, Nat.zero_le _, h0⟩, ?_⟩
  rintro i m σ H ⟨rfl, hi, p⟩
  by_cases hlt : i < n
  · refine .inr ⟨hlt, Pv (i + 1), fun σ' H' p' => ⟨n - (i + 1), by omega, rfl, hlt, p'⟩, fun x H' y => ?_⟩
    obtain ⟨e, y⟩ := y
    subst e y
    exact hs i σ _ hlt p
  · have e : i = n := by omega
    subst e
    exact .inl ⟨Nat.le_refl _, hd σ H p⟩
end L2

namespace L2
open PySem PySem.Spec PyProof.Rows

abbrev R2 := V → V → Hp → VK → Prop
def OpR (X : Cx) (f : Value → Value → Sem Value) (r : R2) : Prop :=
  ∀ (pins : List (Addr × Obj)) (s : Shared) (σ : St) (H : Hp) (x y : V) (v u : Value) (Q : VK), Inv X pins σ H s → RelV x v → RelV y u → r x y H Q →
    wpAny (model X.prog X.w) X.A (f v u) (EP X pins σ Q) X.xe s
def CallR (X : Cx) (f : Value) (r : List V → Hp → VK → Prop) : Prop :=
  ∀ (pins : List (Addr × Obj)) (s : Shared) (σ : St) (H : Hp) (xs : List V) (us : List Value) (Q : VK), Inv X pins σ H s → Vals xs us → r xs H Q →
    wpAny (model X.prog X.w) X.A (call f us) (EP X pins σ Q) X.xe s
def TruR (X : Cx) (r : V → Hp → (Bool → Hp → Prop) → Prop) : Prop :=
  ∀ (pins : List (Addr × Obj)) (s : Shared) (σ : St) (H : Hp) (x : V) (v : Value) (Q : Bool → Hp → Prop), Inv X pins σ H s → RelV x v → r x H Q →
    wpAny (model X.prog X.w) X.A (truthy v) (TP X pins σ Q) X.xe s

def tOp (r : R2) (ta tb : TE) : TE := fun σ H Q => ta σ H fun x H1 => tb σ H1 fun y H2 => r x y H2 Q
def rI (C : Int → Int → Prop) (g : Int → Int → V) : R2 := fun x y H Q => ∃ i j, x = .int i ∧ y = .int j ∧ C i j ∧ Q (g i j) H
def rI0 (g : Int → Int → V) : R2 := fun x y H Q => ∃ i j, x = .int i ∧ y = .int j ∧ Q (g i j) H
section
variable {X : Cx} {a b c : Expr} {ta tb tc : TE} {pos : Pos}

theorem binT (ha : PE X a ta) (hb : PE X b tb) {pins : List (Addr × Obj)} {s : Shared} {σ : St} {H : Hp} {R : V → V → Hp → Prop} (I : Inv X pins σ H s)
    (h : ta σ H fun x H1 => tb σ H1 fun y H2 => R x y H2) {Q : Value → Shared → Prop} {f : Value → Value → Sem Value}
    (hf : ∀ v u s2 x y H2, Inv X pins σ H2 s2 → RelV x v → RelV y u → R x y H2 → wpAny (model X.prog X.w) X.A (f v u) Q X.xe s2) :
    wpAny (model X.prog X.w) X.A (eval a X.env) (fun v s₁ => wpAny (model X.prog X.w) X.A (eval b X.env) (fun u s₂ => wpAny (model X.prog X.w) X.A (f v u) Q X.xe s₂) X.xe s₁) X.xe s := by
  refine thn (ha pins s σ H _ I h) fun v s1 ⟨x, H1, I1, r1, q1⟩ => ?_
  refine thn (hb pins s1 σ H1 _ I1 q1) fun u s2 ⟨y, H2, I2, r2, q2⟩ => ?_
  exact hf v u s2 x y H2 I2 r1 r2 q2

theorem pe_op {op : Operator} {r : R2} (ho : OpR X (binaryOp op) r) (ha : PE X a ta) (hb : PE X b tb) : PE X (.BinOp a op b pos) (tOp r ta tb) := by
  intro pins s σ H Q I h
  exact wpAny_BinOp (binT ha hb I h fun v u s2 x y H2 I2 rx ry q => ho pins s2 σ H2 x y v u Q I2 rx ry q)
theorem opI {f : Value → Value → Sem Value} {C : Int → Int → Prop} {g : Int → Int → Int}
    (rule : ∀ (i j : Int) (t u : Tok) (s : Shared) (Q : Value → Shared → Prop) (E : Value → Shared → Prop), C i j → Q (.int (g i j) s.toks) { s with toks := s.toks + 1 } → wpAny (model X.prog X.w) X.A (f (.int i t) (.int j u)) Q E s) :
    OpR X f (rI C fun i j => .int (g i j)) := by
  intro pins s σ H x y v u Q I rx ry h
  obtain ⟨i, j, rfl, rfl, hc, q⟩ := h
  obtain ⟨t, rfl⟩ := rx
  obtain ⟨t', rfl⟩ := ry
  exact rule i j t t' s _ _ hc ⟨.int (g i j), H, I.tok _, ⟨_, rfl⟩, q⟩
theorem opI0 {f : Value → Value → Sem Value} {g : Int → Int → Int}
    (rule : ∀ (i j : Int) (t u : Tok) (s : Shared) (Q : Value → Shared → Prop) (E : Value → Shared → Prop), Q (.int (g i j) s.toks) { s with toks := s.toks + 1 } → wpAny (model X.prog X.w) X.A (f (.int i t) (.int j u)) Q E s) :
    OpR X f (rI0 fun i j => .int (g i j)) := by
  intro pins s σ H x y v u Q I rx ry h
  obtain ⟨i, j, rfl, rfl, q⟩ := h
  obtain ⟨t, rfl⟩ := rx
  obtain ⟨t', rfl⟩ := ry
  exact rule i j t t' s _ _ ⟨.int (g i j), H, I.tok _, ⟨_, rfl⟩, q⟩
theorem opB0 {f : Value → Value → Sem Value} {g : Int → Int → Bool}
    (rule : ∀ (i j : Int) (t u : Tok) (s : Shared) (Q : Value → Shared → Prop) (E : Value → Shared → Prop), Q (.bool (g i j)) s → wpAny (model X.prog X.w) X.A (f (.int i t) (.int j u)) Q E s) :
    OpR X f (rI0 fun i j => .bl (g i j)) := by
  intro pins s σ H x y v u Q I rx ry h
  obtain ⟨i, j, rfl, rfl, q⟩ := h
  obtain ⟨t, rfl⟩ := rx
  obtain ⟨t', rfl⟩ := ry
  exact rule i j t t' s _ _ ⟨.bl (g i j), H, I, rfl, q⟩

def CDiv (i j : Int) : Prop := 0 < j ∧ j < 1073741824
def CMul (i j : Int) : Prop := (-(2 ^ 64) < i ∧ i < 2 ^ 64) ∨ (-(2 ^ 64) < j ∧ j < 2 ^ 64)
theorem CMul.ok {i j : Int} (h : CMul i j) : IntMulOk i j := by
  rcases h with ⟨h1, h2⟩ | ⟨h1, h2⟩
  · exact .of_left (intBits_le_64 h1 h2)
  · exact .of_right (intBits_le_64 h1 h2)
theorem op_add : OpR X (binaryOp .Add) (rI0 fun i j => .int (i + j)) := opI0 fun _ _ _ _ _ _ _ q => add_int q
theorem op_sub : OpR X (binaryOp .Sub) (rI0 fun i j => .int (i - j)) := opI0 fun _ _ _ _ _ _ _ q => sub_int q
theorem op_mul : OpR X (binaryOp .Mult) (rI CMul fun i j => .int (i * j)) := opI fun _ _ _ _ _ _ _ hc q => mul_int q hc.ok
theorem op_fdiv : OpR X (binaryOp .FloorDiv) (rI CDiv fun i j => .int (i / j)) := opI fun i j _ _ _ _ _ hc q => by
  have h1 : (0 : Int) < j := hc.1
  have h2 : j < 1073741824 := hc.2
  exact floordiv_int (by omega) (by rw [Int.fdiv_eq_ediv_of_nonneg i (by omega)]; exact q) (.inl (PyProof.noPylong_small (by omega)))
theorem op_mod : OpR X (binaryOp .Mod) (rI (fun _ j => 0 < j) fun i j => .int (i % j)) := opI fun i j _ _ _ _ _ hc q => by
  have h1 : (0 : Int) < j := hc
  exact mod_int' (by omega) (by rw [Int.fmod_eq_emod_of_nonneg i (by omega)]; exact q)
end

def scal : V → V → Bool
  | .non, .non => true | .non, .int _ => true | .int _, .non => true | .non, .bl _ => true | .bl _, .non => true | .non, .str _ => true | .str _, .non => true
  | .int _, .int _ => true | .bl _, .bl _ => true | .str _, .str _ => true | .byt _, .byt _ => true
  | .int _, .str _ => true | .str _, .int _ => true | .bl _, .str _ => true | .str _, .bl _ => true
  | _, _ => false
def rEq : R2 := fun x y H Q => scal x y = true ∧ Q (.bl (decide (x = y))) H
theorem dec_int {i j : Int} : decide (V.int i = V.int j) = (i == j) := by
  rw [Bool.eq_iff_iff]
  simp
theorem dec_bl {i j : Bool} : decide (V.bl i = V.bl j) = (i == j) := by
  rw [Bool.eq_iff_iff]
  simp
theorem dec_str {i j : Str} : decide (V.str i = V.str j) = (i == j) := by
  rw [Bool.eq_iff_iff]
  simp
theorem dec_byt {i j : Array UInt8} : decide (V.byt i = V.byt j) = (i.toList == j.toList) := by
  rw [Bool.eq_iff_iff]
  cases i
  cases j
  simp

section
variable {X : Cx} {a b c : Expr} {ta tb tc : TE} {pos : Pos}
theorem fin_bl {pins : List (Addr × Obj)} {σ : St} {H : Hp} {s : Shared} {Q : VK} {k k' : Bool} (I : Inv X pins σ H s) (q : Q (.bl k) H) (e : k = k') : EP X pins σ Q (.bool k') s := by
  subst e
  exact ⟨.bl k, H, I, rfl, q⟩
theorem op_eq : OpR X (compareOp .Eq) rEq := by
  intro pins s σ H x y v u Q I rx ry h
  obtain ⟨hs, q⟩ := h
  cases x with
  | non =>
    cases rx
    cases y with
    | non => cases ry; exact PySem.EqNone.eq_none_none (fin_bl I q (by simp))
    | bl j => cases ry; exact PySem.EqNone.eq_none_bool (fin_bl I q (by simp))
    | int j => obtain ⟨t', rfl⟩ := ry; exact PySem.EqNone.eq_none_int (fin_bl I q (by simp))
    | str j => obtain ⟨t', rfl⟩ := ry; exact PySem.EqNone.eq_none_str (fin_bl I q (by simp))
    | _ => exact absurd (show false = true from hs) Bool.false_ne_true
  | bl i =>
    cases rx
    cases y with
    | non => cases ry; exact PySem.EqNone.eq_bool_none (fin_bl I q (by simp))
    | bl j => cases ry; exact eq_bool (fin_bl I q dec_bl)
    | str j => obtain ⟨t', rfl⟩ := ry; exact PySem.EqMixed.eq_bool_str (fin_bl I q (by simp))
    | _ => exact absurd (show false = true from hs) Bool.false_ne_true
  | int i =>
    obtain ⟨t, rfl⟩ := rx
    cases y with
    | non => cases ry; exact PySem.EqNone.eq_int_none (fin_bl I q (by simp))
    | int j => obtain ⟨t', rfl⟩ := ry; exact eq_int (fin_bl I q dec_int)
    | str j => obtain ⟨t', rfl⟩ := ry; exact PySem.EqMixed.eq_int_str (fin_bl I q (by simp))
    | _ => exact absurd (show false = true from hs) Bool.false_ne_true
  | str i =>
    obtain ⟨t, rfl⟩ := rx
    cases y with
    | non => cases ry; exact PySem.EqNone.eq_str_none (fin_bl I q (by simp))
    | bl j => cases ry; exact PySem.EqMixed.eq_str_bool (fin_bl I q (by simp))
    | int j => obtain ⟨t', rfl⟩ := ry; exact PySem.EqMixed.eq_str_int (fin_bl I q (by simp))
    | str j => obtain ⟨t', rfl⟩ := ry; exact eq_str (fin_bl I q dec_str)
    | _ => exact absurd (show false = true from hs) Bool.false_ne_true
  | byt i =>
    obtain ⟨t, rfl⟩ := rx
    cases y with
    | byt j => obtain ⟨t', rfl⟩ := ry; exact PySem.W.eq_bytes (fin_bl I q dec_byt)
    | _ => exact absurd (show false = true from hs) Bool.false_ne_true
  | _ => cases y <;> exact absurd (show false = true from hs) Bool.false_ne_true
theorem op_lt : OpR X (compareOp .Lt) (rI0 fun i j => .bl (decide (i < j))) := opB0 fun _ _ _ _ _ _ _ q => lt_int q
theorem op_gt : OpR X (compareOp .Gt) (rI0 fun i j => .bl (decide (j < i))) := opB0 fun _ _ _ _ _ _ _ q => gt_int q
theorem nomark (b : Expr) {op : CmpOp} (h : op ≠ .In := by decide) (h2 : op ≠ .NotIn := by decide) : behindInMarks op b = false := by
  have e1 : (op == CmpOp.In) = false := by cases op <;> first | rfl | exact absurd rfl h
  have e2 : (op == CmpOp.NotIn) = false := by cases op <;> first | rfl | exact absurd rfl h2
  cases b <;> simp [behindInMarks, e1, e2]
theorem pe_cmpR {op : CmpOp} {r : R2} (ho : OpR X (compareOp op) r) (ha : PE X a ta) (hb : PE X b tb) (hm : behindInMarks op b = false) : PE X (.Compare a [op] [b] pos) (tOp r ta tb) := by
  intro pins s σ H Q I h
  exact wpAny_Compare1 (binT ha hb I h fun v u s2 x y H2 I2 rx ry q => ho pins s2 σ H2 x y v u Q I2 rx ry q) hm
def tTest (t : TE) : TT := fun σ H Q => t σ H fun x H' => ∃ k, x = .bl k ∧ Q k H'
theorem pt_cmpR {op : CmpOp} {r : R2} (ho : OpR X (compareOp op) r) (ha : PE X a ta) (hb : PE X b tb) (hm : behindInMarks op b = false) : PT X (.Compare a [op] [b] pos) (tTest (tOp r ta tb)) := by
  intro pins s σ H Q I h
  refine wpAny_isTrue_Compare1 (thn (ha pins s σ H _ I h) fun v s1 ⟨x, H1, I1, r1, q1⟩ => thn (hb pins s1 σ H1 _ I1 q1) fun u s2 ⟨y, H2, I2, r2, q2⟩ =>
    thn (ho pins s2 σ H2 x y v u _ I2 r1 r2 q2) fun c s3 ⟨z, H3, I3, r3, k, e, q3⟩ => ?_) hm
  subst e
  cases r3
  exact wpAny_truthy_bool ⟨H3, I3, q3⟩
def TruV (K : PySem.W.Frag) (x : V) (H : Hp) (k : Bool) : Prop :=
  match x with
  | .non => k = false
  | .bl b => k = b
  | .int i => k = (i != 0)
  | .str y => y.length ≤ sizeLine ∧ k = ((y.length : Int) != 0)
  | .byt y => y.size ≤ sizeLine ∧ k = ((y.size : Int) != 0)
  | .ref p => (∃ xs, SqL K H p xs ∧ k = !xs.isEmpty) ∨ (∃ xs, SqT K H p xs ∧ k = !xs.isEmpty) ∨ ∃ kvs, H p = some (.dK kvs) ∧ k = !kvs.isEmpty
  | _ => False
theorem isEmpty_kv {κ : Type} {kvs : List (κ × V)} {vs : List (κ × Value)} (r : KV kvs vs) : (!vs.isEmpty) = !kvs.isEmpty := by
  cases r <;> rfl
theorem isEmpty_of {xs : List V} {its : List Value} (r : Vals xs its) : (!its.toArray.isEmpty) = !xs.isEmpty := by
  cases r <;> simp
theorem line63 : (sizeLine : Nat) < 2 ^ 63 := by rw [sizeLine_eq]; decide
theorem tru_ok : TruR X (fun x H Q => ∃ k, TruV X.K x H k ∧ Q k H) := by
  intro pins s σ H x v Q I rx h
  obtain ⟨k, e, q⟩ := h
  have hl := line63
  have hs : sizeLine = 16777216 := sizeLine_eq
  cases x with
  | non =>
    cases rx
    have e' : k = false := e
    subst e'
    exact truthy_none ⟨H, I, q⟩
  | bl b =>
    cases rx
    have e' : k = b := e
    subst e'
    exact wpAny_truthy_bool ⟨H, I, q⟩
  | int i =>
    obtain ⟨t, rfl⟩ := rx
    have e' : k = (i != 0) := e
    subst e'
    exact PySem.P.truthy_int ⟨H, I, q⟩
  | str y =>
    obtain ⟨t, rfl⟩ := rx
    obtain ⟨hy, e'⟩ : y.length ≤ sizeLine ∧ k = ((y.length : Int) != 0) := e
    subst e'
    exact PySem.P.truthy_str (by omega) ⟨H, I.tok _, q⟩
  | byt y =>
    obtain ⟨t, rfl⟩ := rx
    obtain ⟨hy, e'⟩ : y.size ≤ sizeLine ∧ k = ((y.size : Int) != 0) := e
    subst e'
    exact PySem.W.truthy_bytes (by omega) ⟨H, I.tok _, q⟩
  | ref p =>
    cases rx
    have e' : (∃ xs, SqL X.K H p xs ∧ k = !xs.isEmpty) ∨ (∃ xs, SqT X.K H p xs ∧ k = !xs.isEmpty) ∨ ∃ kvs, H p = some (.dK kvs) ∧ k = !kvs.isEmpty := e
    rcases e' with ⟨xs, hx, e'⟩ | ⟨xs, hx, e'⟩ | ⟨kvs, hx, e'⟩
    · subst e'
      obtain ⟨its, r, pl, hz⟩ := I.list hx
      have hlen := r.length
      exact wpAny_truthy_list pl.isList (by simp only [List.size_toArray]; omega) ⟨H, I.tok _, by rw [isEmpty_of r]; exact q⟩
    · subst e'
      obtain ⟨its, r, pl, hz⟩ := I.tuple hx
      have hlen := r.length
      exact truthy_tuple pl (by simp only [List.size_toArray]; omega) ⟨H, I.tok _, by rw [isEmpty_of r]; exact q⟩
    · subst e'
      obtain ⟨hz, hS, vs, r, m⟩ : kvs.length ≤ sizeLine ∧ (p == sysModules) = false ∧ ∃ vs, KV kvs vs ∧ s.heap.DictOf (mixKind X.prog X.w) p vs := I.hok p _ hx
      have hlen : kvs.length = vs.length := Paired.length r
      exact wpAny_truthy_dict hS m (by omega) ⟨H, I.tok _, by rw [isEmpty_kv r]; exact q⟩
  | _ => exact (show False from e).elim
theorem pt_truth (ha : PE X a ta) (he : ∀ whole, isTrue a X.env whole = (do let v ← whole; standAt a.pos; holding [v] (truthy v))) :
    PT X a (fun σ H Q => ta σ H fun x H' => ∃ k, TruV X.K x H' k ∧ Q k H') := by
  intro pins s σ H Q I h
  exact isTrue_plain (thn (ha pins s σ H _ I h) fun v s1 ⟨x, H1, I1, r1, q1⟩ => tru_ok pins s1 σ H1 x v Q I1 r1 q1) (he _)

theorem vals1 {x : V} {us : List Value} (r : Vals [x] us) : ∃ u, us = [u] ∧ RelV x u := by
  cases r with
  | cons r1 r2 => cases r2; exact ⟨_, rfl, r1⟩
theorem vals2 {x y : V} {us : List Value} (r : Vals [x, y] us) : ∃ u w', us = [u, w'] ∧ RelV x u ∧ RelV y w' := by
  cases r with
  | cons r1 r2 =>
    cases r2 with
    | cons r3 r4 => cases r4; exact ⟨_, _, rfl, r1, r3⟩
theorem call_max2 (hc : X.calm = true) : CallR X (.builtin "max") (fun xs H Q => ∃ i j, xs = [.int i, .int j] ∧ Q (.int (if j > i then j else i)) H) := by
  intro pins s σ H xs us Q I r h
  obtain ⟨i, j, rfl, q⟩ := h
  obtain ⟨u, w', rfl, ⟨t, rfl⟩, ⟨t', rfl⟩⟩ := vals2 r
  refine max_two_ints (I.ok.hd hc) fun h' tk k => ⟨_, H, I.kept k, ?_, q⟩
  by_cases hj : j > i
  · rw [if_pos hj, if_pos hj]; exact ⟨_, rfl⟩
  · rw [if_neg hj, if_neg hj]; exact ⟨_, rfl⟩
theorem call_min2 (hc : X.calm = true) : CallR X (.builtin "min") (fun xs H Q => ∃ i j, xs = [.int i, .int j] ∧ Q (.int (if j < i then j else i)) H) := by
  intro pins s σ H xs us Q I r h
  obtain ⟨i, j, rfl, q⟩ := h
  obtain ⟨u, w', rfl, ⟨t, rfl⟩, ⟨t', rfl⟩⟩ := vals2 r
  refine min_two_ints (I.ok.hd hc) fun h' tk k => ⟨_, H, I.kept k, ?_, q⟩
  by_cases hj : j < i
  · rw [if_pos hj, if_pos hj]; exact ⟨_, rfl⟩
  · rw [if_neg hj, if_neg hj]; exact ⟨_, rfl⟩
end
end L2

namespace L2
open PySem PySem.Spec PyProof.Rows

structure ObjM (h : Heap) (x dx C : Addr) (mA : Str → Option Value) : Prop where
  obj : h.get? x = some (PySem.W.instObj C dx)
  ns : h.Ns1 dx mA
  ne : dx ≠ x

theorem lookIn_ns {h : Heap} {dx : Addr} {mA : Str → Option Value} (n : h.Ns1 dx mA) : ∃ od, h.get? dx = some od ∧ ∀ name, PySem.W.lookIn name od = some (mA name) := by
  obtain ⟨o, es, ep, ho, hd, hk, _, hm⟩ := n
  refine ⟨o, ho, fun name => ?_⟩
  have e := hm name
  unfold nsFind findBy at e
  rw [← Array.find?_toList] at e
  unfold PySem.W.lookIn
  rw [hd]
  dsimp only
  split
  · rename_i y q
    rw [q] at e
    exact congrArg some e
  · rename_i q
    rw [q] at e
    have a : es.toList.any (·.refKey) = false := by
      rw [List.any_eq_false]
      intro y hy
      obtain ⟨z, t, hkey⟩ := hk y (Array.mem_toList_iff.mp hy)
      simp [DictEntry.refKey, hkey]
    have a' : ¬ es.toList.any (·.refKey) = true := by rw [a]; exact Bool.false_ne_true
    rw [if_neg a']
    exact congrArg some e

theorem ObjM.look {h : Heap} {x dx C : Addr} {mA : Str → Option Value} (I : ObjM h x dx C mA) : ∃ od, PySem.W.InstAt h x (PySem.W.instObj C dx) C (some od) ∧ ∀ name, PySem.W.lookIn name od = some (mA name) :=
  let ⟨od, ho, hl⟩ := lookIn_ns I.ns
  ⟨od, ⟨I.obj, rfl, rfl, ho⟩, hl⟩

section
variable {prog : Program} {w : World} {A : Around} {E : Value → Shared → Prop} {s : Shared} {K : PySem.W.Frag} {x dx C f : Addr} {mA : Str → Option Value} {name : Str} {v : Value}

end

theorem RelO.some_of {v : V} {o : Option Value} (r : RelO (some v) o) : ∃ u, o = some u ∧ RelV v u := by
  cases o with
  | none => exact (show False from r).elim
  | some u => exact ⟨u, rfl, r⟩
section
variable {P : Program} {w : World} {H H' : Hp} {h h' : Heap} {a C dx : Addr} {fs fs' : List (Str × V)}
theorem ins_get (hok : HOk P w H h) (e : H a = some (.ins C dx fs)) : ∃ mA, ObjM h a dx C mA ∧ (∀ f, RelO (fs.lookup f) (mA f)) ∧ PySem.Within mA (fs.map (·.1)) ∧ fs.length ≤ 1000 ∧ H dx = some (.own a) := by
  obtain ⟨d, z, ne, ob, mA, n, r, q⟩ := (show ObjOk P w H h a (.ins C dx fs) from hok a _ e)
  exact ⟨mA, ⟨ob, n, ne⟩, r, q, z, d⟩
end

structure Cls (K : PySem.W.Frag) (C : Addr) : Prop where
  pg : PySem.W.plainGet K C Str.empty = true
  hd : PySem.W.hasDictIn K C = true
  po : PySem.W.plainOver K C = true
  sa : PySem.W.findIn K (.ref C) "__setattr__" = some (some (.builtin "object.__setattr__"))
theorem Cls.get {K : PySem.W.Frag} {C : Addr} (c : Cls K C) (f : Str) : PySem.W.plainGet K C f = true := c.pg
section
variable {X : Cx} {pins : List (Addr × Obj)} {σ : St} {H : Hp} {s : Shared} {a C dx : Addr} {fs : List (Str × V)} {f : Str} {v : V} {A : Around} {E : Value → Shared → Prop}

end

section
variable {X : Cx} {o e value : Expr} {f : Str} {pos pos' tpos : Pos} {ta tv : TE}
end

section
variable {X : Cx} {pins : List (Addr × Obj)} {σ : St} {H : Hp} {s : Shared} {A : Around} {E : Value → Shared → Prop} {Q : Value → Shared → Prop} {c : Value} {b : Bool}
inductive TyOf (K : PySem.W.Frag) (H : Hp) : V → Value → Prop where
  | non : TyOf K H .non (.type "NoneType")
  | bl (x : Bool) : TyOf K H (.bl x) (.type "bool")
  | int (i : Int) : TyOf K H (.int i) (.type "int")
  | str (x : Str) : TyOf K H (.str x) (.type "str")
  | flt (x : UInt64) : TyOf K H (.flt x) (.type "float")
  | lst {a : Addr} {xs : List V} (e : H a = some (.lst xs)) : TyOf K H (.ref a) (.type "list")
  | frz {a : Addr} {o : Obj} {xs : List V} (e : H a = some (.frz o (.lst xs))) : TyOf K H (.ref a) (.type "list")
  | tup {a : Addr} {xs : List V} (e : H a = some (.tup xs)) : TyOf K H (.ref a) (.type "tuple")
  | dK {a : Addr} {kvs : List (Key × V)} (e : H a = some (.dK kvs)) : TyOf K H (.ref a) (.type "dict")
  | dT {a : Addr} {kvs : List (List Key × V)} (e : H a = some (.dT kvs)) : TyOf K H (.ref a) (.type "dict")
  | ins {a C dx : Addr} {fs : List (Str × V)} (e : H a = some (.ins C dx fs)) (cl : Cls K C) (ha : PySem.W.findIn K (.ref C) "__class__" = some (some (.builtin "object.__class__")))
      (hn : PySem.W.specialIn K (.builtin "object.__class__") "__get__" = some (some (.builtin "getset_descriptor.__get__"))) (htk : PySem.W.takesIn K (.builtin "object.__class__") = some true)
      (hm : PySem.W.mroIn K C (.type "object") = some true) : TyOf K H (.ref a) (.ref C)
theorem isinst_ok {x : V} {u t : Value} (I : Inv X pins σ H s) (rx : RelV x u) (ty : TyOf X.K H x t) (e : PySem.W.kitOne X.K t c = some b) (h : ∀ tk, Q (.bool b) { s with toks := tk }) :
    wpAny (model X.prog X.w) A (call (.builtin "isinstance") [u, c]) Q E s := by
  cases ty with
  | non => cases (show u = Value.none from rx); exact PySem.W.kia_one PySem.W.kitx_none I.kIn True.intro e (fun z => nomatch z) h
  | bl y => cases (show u = Value.bool y from rx); exact PySem.W.kia_one PySem.W.kitx_bool I.kIn True.intro e (fun z => nomatch z) h
  | int i => obtain ⟨t, q⟩ := (show ∃ t, u = Value.int i t from rx); cases q; exact PySem.W.kia_one PySem.W.kitx_int I.kIn True.intro e (fun z => nomatch z) h
  | str y => obtain ⟨t, q⟩ := (show ∃ t, u = Value.str y t from rx); cases q; exact PySem.W.kia_one PySem.W.kitx_str I.kIn True.intro e (fun z => nomatch z) h
  | flt y => obtain ⟨t, q⟩ := (show ∃ t, u = Value.float y t from rx); cases q; exact PySem.W.kia_one PySem.W.kitx_float I.kIn True.intro e (fun z => nomatch z) h
  | @lst a xs ea =>
    cases (show u = Value.ref a from rx)
    obtain ⟨_, _, n, _, h1⟩ := (show ObjOk X.prog X.w H s.heap a (.lst xs) from I.hok a _ ea)
    exact PySem.W.kia_one PySem.W.kitx_list I.kIn ⟨_, h1, rfl⟩ e (fun z => nomatch z) h
  | @frz a ob xs ea =>
    cases (show u = Value.ref a from rx)
    obtain ⟨_, _, _, n, _, h1⟩ := (show ObjOk X.prog X.w H s.heap a (.frz ob (.lst xs)) from I.hok a _ ea)
    exact PySem.W.kia_one PySem.W.kitx_list I.kIn ⟨_, h1, rfl⟩ e (fun z => nomatch z) h
  | @tup a xs ea =>
    cases (show u = Value.ref a from rx)
    obtain ⟨_, _, _, p⟩ := (show ObjOk X.prog X.w H s.heap a (.tup xs) from I.hok a _ ea)
    obtain ⟨o, h1, h2, _⟩ := p
    exact PySem.W.kia_one PySem.W.kitx_tuple I.kIn ⟨o, h1, h2⟩ e (fun z => nomatch z) h
  | @dK a kvs ea =>
    cases (show u = Value.ref a from rx)
    obtain ⟨_, _, vs, _, p⟩ := (show ObjOk X.prog X.w H s.heap a (.dK kvs) from I.hok a _ ea)
    obtain ⟨o, es, ep, h1, h2, _⟩ := p
    exact PySem.W.kia_one PySem.W.kitx_dict I.kIn ⟨o, h1, h2.1⟩ e (fun z => nomatch z) h
  | @dT a kvs ea =>
    cases (show u = Value.ref a from rx)
    obtain ⟨_, _, xs, _, o, es, ep, h1, h2, _⟩ := (show ObjOk X.prog X.w H s.heap a (.dT kvs) from I.hok a _ ea)
    exact PySem.W.kia_one PySem.W.kitx_dict I.kIn ⟨o, h1, h2.1⟩ e (fun z => nomatch z) h
  | @ins a C dx fs ea cl ha hn htk hm =>
    cases (show u = Value.ref a from rx)
    obtain ⟨mA, O, _⟩ := ins_get I.hok ea
    obtain ⟨od, J, _⟩ := O.look
    exact PySem.W.kia_one (PySem.W.kitx_own (cl.get _) cl.hd ha hn htk hm) I.kIn J e (fun z => nomatch z) h
end
end L2

namespace L2
open PySem PySem.Spec PyProof.Rows

structure Room (k : Nat) (A : Around) : Prop where
  hd : A.handled = none
  dp : A.depth + 3 * k + 5 < recursionLimit
  un : A.units + 16 * k + 200 < cLine
theorem Room.mono {j k : Nat} {A : Around} (r : Room k A) (h : j ≤ k) : Room j A := ⟨r.hd, by have := r.dp; omega, by have := r.un; omega⟩
theorem Room.deeper {k : Nat} {A : Around} (r : Room (k + 1) A) (env : Env) : Room k (A.deeper env) :=
  ⟨r.hd, by have := r.dp; show A.depth + 1 + 3 * k + 5 < _; omega, by have := r.un; show A.units + 3 + 16 * k + 200 < _; omega⟩
theorem Room.depth {k : Nat} {A : Around} (r : Room k A) : A.depth < recursionLimit := by have := r.dp; omega
theorem Room.units {k : Nat} {A : Around} (r : Room k A) : A.units + 64 < cLine := by have := r.un; omega
def tNil : TA := fun _ H Q => Q [] H
def tCons (ta : TE) (tr : TA) : TA := fun σ H Q => ta σ H fun x H1 => tr σ H1 fun xs H2 => Q (x :: xs) H2
section
variable {X : Cx} {e : Expr} {es : List Expr} {te : TE} {t : TA} {pos : Pos}
theorem pa_nil : PA X [] tNil := fun _ _ _ _ H Q I h => Calls.spliced_nil ⟨[], H, I, .nil, h⟩
theorem pa_cons (ha : PE X e te) (hr : PA X es t) (hs : starEach (e :: es) X.env = (false, eval e X.env) :: starEach es X.env := by rfl) : PA X (e :: es) (tCons te t) := by
  intro pos pins s σ H Q I h
  rw [hs]
  show wpAny _ _ (spliced ((false, eval e X.env) :: backTo pos (starEach es X.env))) _ _ s
  refine Calls.spliced_cons (thn (ha pins s σ H _ I h) fun u s1 ⟨x, H1, I1, r1, q1⟩ => ?_)
  exact thn (hr pos pins s1 σ H1 _ I1 q1) fun us s2 ⟨xs, H2, I2, r2, q2⟩ => ⟨x :: xs, H2, I2, .cons r1 r2, q2⟩

def tTup (t : TA) : TE := fun σ H Q => t σ H fun xs H1 => xs.length ≤ sizeLine ∧ ∀ p, H1 p = none → Q (.ref p) (upd H1 p (.tup xs))
def tLst (t : TA) : TE := fun σ H Q => t σ H fun xs H1 => xs.length ≤ sizeLine ∧ ∀ p, H1 p = none → Q (.ref p) (upd H1 p (.lst xs))
theorem pe_tup {x1} (h : PA X es t) : PE X (.Tuple es x1 pos) (tTup t) := by
  intro pins s σ H Q I hq
  refine wpAny_Tuple_spliced (thn (h pos pins s σ H _ I hq) fun us s1 ⟨xs, H1, I1, r, z, q⟩ => ⟨by rw [← r.length]; exact z, ?_⟩)
  have hf : H1 s1.heap.objs.size = none := I1.hok.fresh (Nat.le_refl _)
  refine ⟨.ref s1.heap.objs.size, upd H1 s1.heap.objs.size (.tup xs), I1.laid (t' := s1.toks) (fun b u e => Heap.get?_push_of_some _ e) (Nat.le_refl _) ?_, rfl, q _ hf⟩
  exact ⟨z, us, r, ⟨_, Heap.get?_push_size _ rfl, rfl, _, rfl⟩⟩
theorem pe_lst (h : PA X es t) : PE X (.List es pos) (tLst t) := by
  intro pins s σ H Q I hq
  refine wpAny_List_spliced (thn (h pos pins s σ H _ I hq) fun us s1 ⟨xs, H1, I1, r, z, q⟩ => ⟨by rw [← r.length]; exact z, ?_⟩)
  have hf : H1 s1.heap.objs.size = none := I1.hok.fresh (Nat.le_refl _)
  refine ⟨.ref s1.heap.objs.size, upd H1 s1.heap.objs.size (.lst xs), I1.laid (t' := s1.toks) (fun b u e => Heap.get?_push_of_some _ e) (Nat.le_refl _) ?_, rfl, q _ hf⟩
  exact ⟨z, us, 0, r, Heap.get?_push_size _ rfl⟩
end

abbrev Sp := List V → Hp → VK → XK → Prop
abbrev CXT := List Env → Hp → Shared → XK → Value → Shared → Prop

structure Env0 (P : Program) (w : World) (K : PySem.W.Frag) (mg : Str → Option Value) (base : Heap) (A : Around) (outer : List Env) (s : Shared) (H : Hp) : Prop where
  frames : A.frames = some outer
  mod : Mod K mg base
  bs : ∀ b o, base.get? b = some o → s.heap.get? b = some o ∧ H b = none
  bsz : base.objs.size ≤ s.heap.objs.size
  funs : s.heap.FunFrames base outer
  frf : ∀ b ∈ frs outer, H b = none
  hok : HOk P w H s.heap
  bare : AllBare s.gens
def CE (outer : List Env) (P : Program) (w : World) (H : Hp) (s : Shared) (Q : VK) (u : Value) (s' : Shared) : Prop :=
  ∃ v H', s'.os = s.os ∧ AllBare s'.gens ∧ Un (frs outer) [] H H' s.heap s'.heap ∧ HOk P w H' s'.heap ∧ RelV v u ∧ Q v H'
def CR (CX : CXT) (outer : List Env) (P : Program) (w : World) (H : Hp) (s : Shared) (Q : VK) (E : XK) (r : Result) (s' : Shared) : Prop :=
  match r with
  | .ok (.ret u) => CE outer P w H s Q u s'
  | .ok _ => False
  | .error e => CX outer H s E e s'
structure FnOk (P : Program) (w : World) (K : PySem.W.Frag) (mg : Str → Option Value) (base : Heap) (CX : CXT) (k : Nat) (f : Addr) (fd : FuncData) (ps : List Str) (sp : Sp) : Prop where
  len : ∀ vs H Q E, sp vs H Q E → vs.length = ps.length
  run : ∀ (A : Around) (outer : List Env) (s : Shared) (H : Hp) (args : Args) (us : List Value) (vs : List V) (Q : VK) (E : XK), Room k A → Env0 P w K mg base A outer s H → BindsTo s fd args (ps.zip us) → Vals vs us → sp vs H Q E →
    codeAny (model P w) A (.call (.ref f) args) (CR CX outer P w H s Q E) s
section
variable {X : Cx} {pins : List (Addr × Obj)} {σ : St} {H : Hp} {s s' : Shared}
theorem Inv.env0 (I : Inv X pins σ H s) : Env0 X.prog X.w X.K X.mg X.base X.A X.stack s H :=
  ⟨I.ok.frames, I.ok.mod, I.bs, Nat.le_trans I.ok.bsz I.sz, I.stack, I.stkFree, I.hok, I.bare⟩
theorem Inv.after {Q : VK} {u : Value} (I : Inv X pins σ H s) (h : CE X.stack X.prog X.w H s Q u s') : EP X pins σ Q u s' := by
  obtain ⟨v, H', os, bare, un, hok, r, q⟩ := h
  obtain ⟨hh, g, d, t, os'⟩ := s'
  obtain rfl : os' = s.os := os
  exact ⟨v, H', I.call (h' := hh) (g' := g) (d' := d) (t' := t) (ch := []) un hok bare (fun b z => absurd z (by simp)), r, q⟩
end

def tCall (sp : Sp) (dvs : List V) (E : XK) (t : TA) : TE := fun σ H Q => t σ H fun vs H1 => sp (vs ++ dvs) H1 Q E
def Binds (K : PySem.W.Frag) (fd : FuncData) (ps : List Str) (ds : List Value) : Prop :=
  ∀ (s : Shared) (us : List Value), K.In s.heap → (us ++ ds).length = ps.length → BindsTo s fd ⟨us, []⟩ (ps.zip (us ++ ds))
theorem Binds.all {K : PySem.W.Frag} {fd : FuncData} {ps : List Str} (h : ∀ us : List Value, us.length = ps.length → bindArgs fd ⟨us, []⟩ = pure (ps.zip us)) : Binds K fd ps [] := fun s us _ hl => by
  rw [List.append_nil] at hl ⊢
  exact .of_eq (h us hl)

def Passes (CX : CXT) (X : Cx) (E : XK) : Prop := ∀ (pins : List (Addr × Obj)) (σ : St) (H : Hp) (s : Shared) (e : Value) (s' : Shared), Inv X pins σ H s → CX X.stack H s E e s' → X.xe e s'

section
variable {X : Cx} {CX : CXT} {k : Nat} {f C : Addr} {fd : FuncData} {ps : List Str} {sp : Sp} {dvs : List V} {ds : List Value} {E : XK} {x m : Str} {p pos apos : Pos} {e o : Expr} {es : List Expr} {ta : TE} {t : TA}

theorem run_fn {pins : List (Addr × Obj)} {σ : St} {H : Hp} {s : Shared} {Q : VK} {us : List Value} {vs : List V} (F : FnOk X.prog X.w X.K X.mg X.base CX k f fd ps sp) (hr : Room k X.A) (hb : Binds X.K fd ps ds) (hd : Vals dvs ds) (hx : Passes CX X E)
    (I : Inv X pins σ H s) (r : Vals vs us) (h : sp (vs ++ dvs) H Q E) : wpAny (model X.prog X.w) X.A (call (.ref f) us) (EP X pins σ Q) X.xe s := by
  have r2 : Vals (vs ++ dvs) (us ++ ds) := r.append hd
  have hl : (us ++ ds).length = ps.length := by rw [← r2.length]; exact F.len _ _ _ _ h
  refine wpAny_call (codeAny_mono (F.run X.A X.stack s H ⟨us, []⟩ (us ++ ds) (vs ++ dvs) Q E hr I.env0 (hb s us I.kIn hl) r2 h) fun r s' hq => ?_)
  cases r with
  | error e => exact hx pins σ H s e s' I hq
  | ok fl =>
    cases fl with
    | ret u => exact I.after hq
    | next => exact False.elim hq
    | brk => exact False.elim hq
    | cont => exact False.elim hq

theorem pe_call (F : FnOk X.prog X.w X.K X.mg X.base CX k f fd ps sp) (hr : Room k X.A) (hg : Gl X x) (hm : X.mg x = some (.ref f)) (hk : PySem.W.keepIn X.K (.ref f) = true) (hb : Binds X.K fd ps ds) (hd : Vals dvs ds) (hx : Passes CX X E)
    (ha : PA X (e :: es) t) (hdb : (x == ("__debug__" : Str)) = false := by decide) (he : starEach (e :: es) X.env = (false, eval e X.env) :: starEach es X.env := by rfl) (hpl : (backTo pos (starEach es X.env)).any (·.1) = false := by rfl) :
    PE X (.Call (.Name x p) (e :: es) [] pos) (tCall sp dvs E t) := by
  intro pins s σ H Q I h
  refine wpAny_Call_Name_kw (ld_glob I hg hm ?_ hdb)
  refine PySem.W.callWith_K (h₀ := X.base) I.ok.mod.kin hk (thn (ha pos pins s σ H _ I h) fun us s1 ⟨vs, H1, I1, r, q⟩ => ⟨I1.kIn, ?_⟩) he hpl
  exact run_fn F hr hb hd hx I1 r q
end

section
variable {X : Cx} {CX : CXT} {k : Nat} {f C : Addr} {fd : FuncData} {ps ks : List Str} {sp : Sp} {E : XK} {x m : Str} {p pos apos kpos : Pos} {e o : Expr} {es : List Expr} {kws : List Keyword} {te ta : TE} {t tk : TA} {nm : Option Str}
variable {g : List Value → List Value → List Value} {gV : List V → List V → List V}
end

structure FnScope (N P : List Str) (sc : Scope) : Prop where
  kind : sc.kind = .function
  co : sc.isCoroutine = false
  gen : sc.isGenerator = false
  nd : N.Nodup
  pre : N.take P.length = P
  par : ∀ x ∈ P, sc.names.lookup x = some .local ∨ sc.names.lookup x = some .cell
  nofree : ∀ y ∈ sc.names, y.2 ≠ .free

theorem bindL_out {kindOf : Str → Option NameKind} {x : Str} : ∀ {binds : List (Str × Value)} {m : Str → Option Value}, (∀ v, (x, v) ∉ binds) → bindL kindOf binds m x = m x
  | [], _, _ => rfl
  | (n, v) :: r, m, h => by
    unfold bindL
    rw [bindL_out fun w hw => h w (List.mem_cons_of_mem _ hw)]
    split
    · have : x ≠ n := by rintro rfl; exact h v List.mem_cons_self
      simp [this]
    · rfl
theorem bindC_out {kindOf : Str → Option NameKind} {x : Str} : ∀ {binds : List (Str × Value)} {m : Str → Option Value}, (∀ v, (x, v) ∉ binds) → bindC kindOf binds m x = m x
  | [], _, _ => rfl
  | (n, v) :: r, m, h => by
    unfold bindC
    rw [bindC_out fun w hw => h w (List.mem_cons_of_mem _ hw)]
    split
    · rfl
    · have : x ≠ n := by rintro rfl; exact h v List.mem_cons_self
      simp [this]
theorem bindL_get {kindOf : Str → Option NameKind} {x : Str} {v : Value} : ∀ {P : List Str} {vs : List Value} {i : Nat} {m : Str → Option Value}, P.Nodup → P[i]? = some x → vs[i]? = some v → kindOf x = some .local →
    bindL kindOf (P.zip vs) m x = some v
  | [], _, _, _, _, h, _, _ => by simp at h
  | _ :: _, [], _, _, _, _, h, _ => by simp at h
  | p :: P, w :: vs, 0, m, nd, h1, h2, hk => by
    simp at h1 h2; subst h1; subst h2
    show bindL kindOf ((p, w) :: P.zip vs) m p = _
    unfold bindL
    rw [bindL_out fun v hv => (List.nodup_cons.mp nd).1 (List.of_mem_zip hv).1, if_pos hk]
    simp
  | p :: P, w :: vs, i + 1, m, nd, h1, h2, hk => by
    show bindL kindOf ((p, w) :: P.zip vs) m x = _
    unfold bindL
    exact bindL_get (i := i) (List.nodup_cons.mp nd).2 (by simpa using h1) (by simpa using h2) hk
theorem bindC_get {kindOf : Str → Option NameKind} {x : Str} {v : Value} : ∀ {P : List Str} {vs : List Value} {i : Nat} {m : Str → Option Value}, P.Nodup → P[i]? = some x → vs[i]? = some v → kindOf x ≠ some .local →
    bindC kindOf (P.zip vs) m x = some v
  | [], _, _, _, _, h, _, _ => by simp at h
  | _ :: _, [], _, _, _, _, h, _ => by simp at h
  | p :: P, w :: vs, 0, m, nd, h1, h2, hk => by
    simp at h1 h2; subst h1; subst h2
    show bindC kindOf ((p, w) :: P.zip vs) m p = _
    unfold bindC
    rw [bindC_out fun v hv => (List.nodup_cons.mp nd).1 (List.of_mem_zip hv).1, if_neg hk]
    simp
  | p :: P, w :: vs, i + 1, m, nd, h1, h2, hk => by
    show bindC kindOf ((p, w) :: P.zip vs) m x = _
    unfold bindC
    exact bindC_get (i := i) (List.nodup_cons.mp nd).2 (by simpa using h1) (by simpa using h2) hk

def start (N : List Str) (vs : List V) : St := vs.map some ++ List.replicate (N.length - vs.length) none

def cxOf (CX : CXT) (P : Program) (w : World) (K : PySem.W.Frag) (mg : Str → Option Value) (base : Heap) (N : List Str) (qual : Str) (scope : Scope) (f : Addr) (cd : Value) (A : Around) (outer : List Env) (s : Shared) (H : Hp) (E : XK) : Cx where
  prog := P
  w := w
  K := K
  mg := mg
  base := base
  A := A.deeper (envOfC qual scope s.heap.objs.size f cd)
  N := N
  s₀ := s
  H₀ := H
  env := envOfC qual scope s.heap.objs.size f cd
  outer := outer
  stack := envOfC qual scope s.heap.objs.size f cd :: outer
  ex := []
  calm := true
  fn := fun _ => true
  pn := []
  xe := fun e s' => wpAny (model P w) (A.deeper (envOfC qual scope s.heap.objs.size f cd)) (leaving (envOfC qual scope s.heap.objs.size f cd) e) (fun _ s'' => CX outer H s E e s'') (fun e' s'' => CX outer H s E e' s'') s'

theorem cell_has {sc : Scope} {n : Nat} {x : Str} (h : sc.names.lookup x = some .cell) : ∃ c, (cellsFrom n sc.names []).lookup x = some c := by
  have q := PySem.W.cellsFrom_some sc.names n [] (.inl h)
  exact Option.isSome_iff_exists.mp q

theorem inv_start {CX : CXT} {P : Program} {w : World} {K : PySem.W.Frag} {mg : Str → Option Value} {base : Heap} {N ps : List Str} {qual : Str} {scope : Scope} {f : Addr} {cd : Value} {A : Around} {outer : List Env} {s s1 : Shared} {H : Hp} {E : XK} {us : List Value} {vs : List V}
    (S : FnScope N ps scope) (hd : A.handled = none) (e0 : Env0 P w K mg base A outer s H) (hl : vs.length = ps.length) (r : Vals vs us)
    (x : InCallC s s.heap.objs.size (bindL (envOfC qual scope s.heap.objs.size f cd).kindOf (ps.zip us) fun _ => none) (cellsFrom (s.heap.objs.size + 1) scope.names []) (bindC (envOfC qual scope s.heap.objs.size f cd).kindOf (ps.zip us) fun _ => none) s1) :
    Inv (cxOf CX P w K mg base N qual scope f cd A outer s H E) [] (start N vs) H s1 := by
  have hpl : ps.length ≤ N.length := by have := congrArg List.length S.pre; rw [List.length_take] at this; omega
  obtain ⟨h1, tk, rfl, hk⟩ := x.done
  have noA : ∀ b : Addr, b ∉ (cxOf CX P w K mg base N qual scope f cd A outer s H E).ex := fun b z => absurd (show b ∈ ([] : List Addr) from z) (by simp)
  refine ⟨⟨e0.mod, S.kind, rfl, rfl, Nat.le_refl _, fun y z c h1 h2 => ?_, fun y hy => ?_, fun y c _ h => ?_, fun _ => hd, Around.frames_deeper e0.frames, .inr ⟨rfl, rfl⟩, fun b z => absurd z (noA b), e0.bs, e0.bsz, fun b _ _ => noA b, fun b z => absurd z (noA b), e0.funs, e0.frf⟩,
    rfl, e0.bare, Un.kept hk, ⟨_, x.toInCall.ns, fun i y v h1 h2 h3 => ?_⟩, fun y c h => ⟨_, x.cell y c h⟩, e0.hok.fresh (Nat.le_refl _), fun y c h => ?_, fun p hp => absurd (show p ∈ ([] : List (Addr × Obj)) from hp) (by simp), e0.hok.kept hk, ?_⟩
  · exact name_of_addr x.apart (PySem.mem_of_lookup h1) (PySem.mem_of_lookup h2)
  · have hy : scope.names.lookup y = some .cell ∨ scope.names.lookup y = some .free := hy
    rcases hy with hy | hy
    · exact cell_has hy
    · exact absurd rfl (S.nofree _ (PySem.mem_of_lookup hy))
  · exact Nat.le_of_lt (x.above y c (PySem.mem_of_lookup h))
  · have hi : i < vs.length := by
      unfold start at h2
      by_cases hi : i < vs.length
      · exact hi
      · rw [List.getElem?_append_right (by simpa using hi)] at h2
        rw [List.getElem?_replicate] at h2
        split at h2 <;> cases h2
    have ha : vs[i]? = some v := by
      unfold start at h2
      rw [List.getElem?_append_left (by simpa using hi), List.getElem?_map] at h2
      cases e : vs[i]? with
      | none => rw [e] at h2; cases h2
      | some a => rw [e] at h2; cases h2; rfl
    obtain ⟨u, hu, rv⟩ := r.get ha
    have hp : ps[i]? = some y := by
      rw [← S.pre, List.getElem?_take_of_lt (by omega)]; exact h1
    have ndP : ps.Nodup := by rw [← S.pre]; exact S.nd.sublist (List.take_sublist _ _)
    refine ⟨u, rv, ?_⟩
    rcases S.par y (List.mem_of_getElem? hp) with k | k
    · exact .inl ⟨k, bindL_get ndP hp hu k⟩
    · obtain ⟨c, e⟩ := cell_has (n := s.heap.objs.size + 1) k
      refine .inr ⟨.inl k, c, e, ?_⟩
      have q := x.cell y c e
      rw [bindC_get ndP hp hu (by show scope.names.lookup y ≠ _; rw [k]; decide)] at q
      exact q
  · exact e0.hok.fresh (Nat.le_of_lt (x.above y c (PySem.mem_of_lookup h)))
  · unfold start
    show _ = N.length
    rw [List.length_append, List.length_map, List.length_replicate]
    omega

theorem fn_of {CX : CXT} {P : Program} {w : World} {K : PySem.W.Frag} {mg : Str → Option Value} {base : Heap} {k : Nat} {f : Addr} {name qual : Str} {params : Arguments} {body : List Stmt} {scope : Scope} {dV kV doc pm cdv ct oc : Value} {an od : Option Addr}
    {osl : Array (Option Value)} {N ps : List Str} {sp : Sp} (lk : K.lookup f = some ⟨oc, od, .func (PySem.W.fnOf name qual params body scope dV kV doc pm an cdv ct), osl⟩) (hcd : PySem.W.codeIn K cdv qual = true) (S : FnScope N ps scope)
    (len : ∀ vs H Q E, sp vs H Q E → vs.length = ps.length)
    (hbody : ∀ (A : Around) (outer : List Env) (s : Shared) (H : Hp) (vs : List V) (Q : VK) (E : XK), Room k (A.deeper (envOfC qual scope s.heap.objs.size f cdv)) → sp vs H Q E →
      ∃ t, PSs (cxOf CX P w K mg base N qual scope f cdv A outer s H E) body t ∧ t { nx := fun _ H' => Q .non H', rt := Q } (start N vs) H) :
    FnOk P w K mg base CX (k + 1) f (PySem.W.fnOf name qual params body scope dV kV doc pm an cdv ct) ps sp := by
  refine ⟨len, fun A outer s H args us vs Q E hr e0 hb r hsp => ?_⟩
  have hl := len _ _ _ _ hsp
  have KX : K.In s.heap := e0.mod.kin.keeps fun b o e => (e0.bs b o e).1
  have lim : s.heap.NoLimit := e0.mod.nolimit.keeps fun b o e => (e0.bs b o e).1
  have hkind : ∀ y ∈ ps.zip us, scope.names.lookup y.1 = some .local ∨ (scope.names.lookup y.1 = some .cell ∧ ((cellsFrom (s.heap.objs.size + 1) scope.names []).lookup y.1).isSome = true) := fun ⟨n, v⟩ hy => by
    rcases S.par n (List.of_mem_zip hy).1 with q | q
    · exact .inl q
    · exact .inr ⟨q, PySem.W.cellsFrom_some _ _ _ (.inl q)⟩
  refine codeAny_call_function hr.depth (KX _ _ lk) rfl S.co S.gen rfl (PySem.W.codeRec_of KX hcd) (hb _ _ _ _ ?_)
  refine wpAny_newFunctionEnv_cells S.kind hkind fun env he s1 x => ?_
  subst he
  refine ⟨lim.keeps x.toInCall.keep, codeAny_func ?_⟩
  obtain ⟨t, ht, hq⟩ := hbody A outer s H vs Q E (hr.deeper _) hsp
  have I : Inv (cxOf CX P w K mg base N qual scope f cdv A outer s H E) [] (start N vs) H s1 := inv_start S hr.hd e0 hl r x
  refine wpAny_mono (ht [] s1 (start N vs) H _ I hq) (fun fl s' hs => ?_) fun e s' hs => hs
  have fin : ∀ {σ' : St} {H' : Hp} {v : V} {u : Value}, Inv (cxOf CX P w K mg base N qual scope f cdv A outer s H E) [] σ' H' s' → RelV v u → Q v H' → CE outer P w H s Q u s' :=
    fun {σ' H' v u} J rv q => ⟨v, H', J.os, J.bare, J.base, J.hok, rv, q⟩
  cases fl with
  | ret u =>
    obtain ⟨v, σ', H', J, rv, q⟩ := hs
    exact fin J rv q
  | next =>
    obtain ⟨σ', H', J, q⟩ := hs
    exact fin (v := V.non) (u := Value.none) J rfl q
  | brk =>
    obtain ⟨_, _, _, q⟩ := hs
    exact False.elim q
  | cont =>
    obtain ⟨_, _, _, q⟩ := hs
    exact False.elim q
end L2

namespace L2
open PySem PySem.Spec PyProof.Rows
section
variable {X : Cx} {x : Str} {p pos : Pos} {e : Expr} {es : List Expr} {t : TA} {id T : String} {r : List V → Hp → VK → Prop}

def tCB (r : List V → Hp → VK → Prop) (t : TA) : TE := fun σ H Q => t σ H fun vs H1 => r vs H1 Q
theorem pe_callB (hc : CallR X (.builtin id) r) (hg : Gl X x) (hm : X.mg x = none) (hv : bootBuiltins x = some (.builtin id)) (ha : PA X (e :: es) t) (hn : x ≠ "__name__" := by decide) (hdb : (x == ("__debug__" : Str)) = false := by decide)
    (he : starEach (e :: es) X.env = (false, eval e X.env) :: starEach es X.env := by rfl) (hpl : (backTo pos (starEach es X.env)).any (·.1) = false := by rfl) : PE X (.Call (.Name x p) (e :: es) [] pos) (tCB r t) := by
  intro pins s σ H Q I h
  refine wpAny_Call_Name_kw (ld_blt I hg hm hv ?_ hn hdb)
  exact PyProof.Rows.callWith_builtin1 (thn (ha pos pins s σ H _ I h) fun us s1 ⟨vs, H1, I1, r1, q1⟩ => hc pins s1 σ H1 vs us Q I1 r1 q1) he hpl
theorem pe_callTy (hc : CallR X (.type T) r) (hg : Gl X x) (hm : X.mg x = none) (hv : bootBuiltins x = some (.type T)) (ha : PA X (e :: es) t) (hn : x ≠ "__name__" := by decide) (hdb : (x == ("__debug__" : Str)) = false := by decide)
    (he : starEach (e :: es) X.env = (false, eval e X.env) :: starEach es X.env := by rfl) (hpl : (backTo pos (starEach es X.env)).any (·.1) = false := by rfl) : PE X (.Call (.Name x p) (e :: es) [] pos) (tCB r t) := by
  intro pins s σ H Q I h
  refine wpAny_Call_Name_kw (ld_blt I hg hm hv ?_ hn hdb)
  exact PyProof.Rows.callWith_type1 (thn (ha pos pins s σ H _ I h) fun us s1 ⟨vs, H1, I1, r1, q1⟩ => hc pins s1 σ H1 vs us Q I1 r1 q1) he hpl
end
end L2

namespace HT
open PySem PyProof.Rows

section
open PySem.SeqAt
open PySem.AutoSeq1 (wpAny_loadPart')
open PySem.MeetsSeq PySem.MeetsSeq2 PySem.MeetsSeq3

end

section
variable {prog : Program} {w : World} {A : Around} {E : Value → Shared → Prop} {s : Shared}

def sIx (n d : Nat) : Option Int → Nat
  | none => d
  | some v => if v < 0 then (v + (n : Int)).toNat else min v.toNat n
theorem sIx_none (n d : Nat) : sIx n d none = d := rfl
theorem sIx_nat (n d k : Nat) : sIx n d (some (k : Int)) = min k n := by
  show (if (k : Int) < 0 then ((k : Int) + (n : Int)).toNat else min (k : Int).toNat n) = min k n
  rw [if_neg (by omega), Int.toNat_natCast]
end
end HT

namespace L2
open PySem PySem.Spec PyProof.Rows

abbrev TO := St → Hp → (Option Int → Hp → Prop) → Prop
def PO (X : Cx) (e : Option Expr) (t : TO) : Prop :=
  ∀ (pins : List (Addr × Obj)) (s : Shared) (σ : St) (H : Hp) (Q : Option Int → Hp → Prop), Inv X pins σ H s → t σ H Q →
    wpAny (model X.prog X.w) X.A (evalPart e X.env) (fun u s' => ∃ o H', Inv X pins σ H' s' ∧ IsPart u o ∧ Q o H') X.xe s
def tNoPart : TO := fun _ H Q => Q none H
def tPart (t : TE) : TO := fun σ H Q => t σ H fun x H1 => ∃ i, x = .int i ∧ Q (some i) H1

theorem intsAre_of {ns : List Int} : ∀ {us : List Value}, Vals (ns.map V.int) us → IntsAre us ns := by
  induction ns with
  | nil => intro us r; rw [List.map_nil] at r; cases r; exact .nil
  | cons n ns ih =>
    intro us r
    rw [List.map_cons] at r
    cases r with
    | cons r1 r2 =>
      obtain ⟨t, e⟩ := r1
      subst e
      exact .cons n t (ih r2)

section
variable {X : Cx} {e : Expr} {te : TE} {lo hi : Option Expr} {tl th : TO} {pos p2 : Pos}

theorem po_none : PO X none tNoPart := by
  intro pins s σ H Q I h
  rw [evalPart_none]
  exact wpAny_pure ⟨none, H, I, .none, h⟩
theorem po_some (h : PE X e te) : PO X (some e) (tPart te) := by
  intro pins s σ H Q I hw
  rw [evalPart_some]
  refine thn (h pins s σ H _ I hw) fun u s1 ⟨x, H1, I1, r1, q1⟩ => ?_
  obtain ⟨i, rfl, q⟩ := q1
  obtain ⟨t, rfl⟩ := r1
  exact ⟨some i, H1, I1, .int i t, q⟩

def SlR (X : Cx) (r : V → Option Int → Option Int → Hp → VK → Prop) : Prop :=
  ∀ (pins : List (Addr × Obj)) (s : Shared) (σ : St) (H : Hp) (x : V) (v vl vu : Value) (lo hi : Option Int) (sl : Addr) (Q : VK), Inv X pins σ H s → RelV x v → s.heap.IsSliceOf sl vl vu .none → IsPart vl lo → IsPart vu hi → r x lo hi H Q →
    ∃ T id, typeLookup (.type T) "__getitem__" = pure (some (.builtin id)) ∧ s.TypeIs v T ∧ wpAny (model X.prog X.w) X.A (getItem v (.ref sl)) (EP X pins σ Q) X.xe s
def tSl (r : V → Option Int → Option Int → Hp → VK → Prop) (te : TE) (tl th : TO) : TE := fun σ H Q => te σ H fun x H1 => tl σ H1 fun l H2 => th σ H2 fun u H3 => r x l u H3 Q
theorem pe_slice {r : V → Option Int → Option Int → Hp → VK → Prop} (hr : SlR X r) (he : PE X e te) (hl : PO X lo tl) (hu : PO X hi th) : PE X (.Subscript e (.Slice lo hi none p2) pos) (tSl r te tl th) := by
  intro pins s σ H Q I h
  refine Subscript_ (thn (he pins s σ H _ I h) fun v s1 ⟨x, H1, I1, r1, q1⟩ => ?_)
  refine wpAny_Slice (thn (hl pins s1 σ H1 _ I1 q1) fun vl s2 ⟨l, H2, I2, pl, q2⟩ => thn (hu pins s2 σ H2 _ I2 q2) fun vu s3 ⟨u, H3, I3, pu, q3⟩ => ?_)
  rw [evalPart_none]
  refine wpAny_pure ?_
  have I4 : Inv X pins σ H3 { s3 with heap := s3.heap.push { cls := .type "slice", data := .fields #[vl, vu, .none] } } := I3.kept (t' := s3.toks) fun b ob q => Heap.get?_push_of_some _ q
  obtain ⟨T, id, hT, ht, hg⟩ := hr pins { s3 with heap := s3.heap.push { cls := .type "slice", data := .fields #[vl, vu, .none] } } σ H3 x v vl vu l u s3.heap.objs.size Q I4 r1 (Heap.IsSliceOf.new ..) pl pu q3
  show wpAny (model X.prog X.w) X.A (subscriptTail e (.Slice lo hi none p2) v (.ref s3.heap.objs.size)) (EP X pins σ Q) X.xe { s3 with heap := s3.heap.push { cls := .type "slice", data := .fields #[vl, vu, .none] } }
  exact tail_any (ops := [.ref s3.heap.objs.size, v]) ht hT hg (by with_unfolding_all rfl)

def cutV (xs : List V) (lo hi : Option Int) : List V := (xs.drop (HT.sIx xs.length 0 lo)).take (HT.sIx xs.length xs.length hi - HT.sIx xs.length 0 lo)
theorem cutV_length (xs : List V) (lo hi : Option Int) : (cutV xs lo hi).length ≤ xs.length := by
  unfold cutV
  rw [List.length_take, List.length_drop]
  omega
end
end L2

namespace L2
open PySem PySem.Spec PyProof.Rows

def ixN (n : Nat) (i : Int) : Option Nat := if 0 ≤ i then (if i < n then some i.toNat else none) else if -(n : Int) ≤ i then some (i + n).toNat else none
def atI {α : Type} (xs : List α) (i : Int) : Option α := (ixN xs.length i).bind fun j => xs[j]?
theorem ixN_seq {n : Nat} {i : Int} {j : Nat} (h : ixN n i = some j) : seqIndex? i n = some j ∧ j < n ∧ -(n : Int) ≤ i ∧ i < n := by
  unfold ixN at h
  by_cases h0 : 0 ≤ i
  · rw [if_pos h0] at h
    by_cases h1 : i < n
    · rw [if_pos h1] at h
      have e : i.toNat = j := Option.some.inj h
      exact ⟨by rw [seqIndex_of h0 h1, e], by omega, by omega, h1⟩
    · rw [if_neg h1] at h; cases h
  · rw [if_neg h0] at h
    by_cases h1 : -(n : Int) ≤ i
    · rw [if_pos h1] at h
      have e : (i + n).toNat = j := Option.some.inj h
      exact ⟨by rw [seqIndex_neg (by omega) h1, e], by omega, h1, by omega⟩
    · rw [if_neg h1] at h; cases h
theorem atI_get {α : Type} {xs : List α} {i : Int} {v : α} (h : atI xs i = some v) : ∃ j, seqIndex? i xs.length = some j ∧ xs[j]? = some v ∧ j < xs.length ∧ -(xs.length : Int) ≤ i ∧ i < xs.length := by
  unfold atI at h
  cases e : ixN xs.length i with
  | none => rw [e] at h; cases h
  | some j =>
    rw [e] at h
    obtain ⟨h1, h2, h3, h4⟩ := ixN_seq e
    exact ⟨j, h1, h, h2, h3, h4⟩
theorem atI_nat {α : Type} {xs : List α} {j : Nat} {v : α} (h : xs[j]? = some v) : atI xs (j : Int) = some v := by
  have hj : j < xs.length := (List.getElem?_eq_some_iff.mp h).1
  have e : ixN xs.length (j : Int) = some j := by
    unfold ixN
    rw [if_pos (by omega), if_pos (by omega)]; simp
  unfold atI; rw [e]; exact h
def PlainIx (b : Expr) : Prop := ∀ o i, subscripted b false o i = operate [o, i] (getItem o i)
def IxR (X : Cx) (r : R2) : Prop :=
  ∀ (value slice : Expr) (pins : List (Addr × Obj)) (s : Shared) (σ : St) (H : Hp) (x y : V) (v u : Value) (Q : VK), Inv X pins σ H s → RelV x v → RelV y u → r x y H Q →
    subscripted slice false v u = operate [v, u] (getItem v u) → wpAny (model X.prog X.w) X.A (subscriptTail value slice v u) (EP X pins σ Q) X.xe s
def MtR (X : Cx) (id : String) (r : V → List V → Hp → VK → Prop) : Prop :=
  ∀ (pins : List (Addr × Obj)) (s : Shared) (σ : St) (H : Hp) (x : V) (xs : List V) (v : Value) (us : List Value) (Q : VK), Inv X pins σ H s → RelV x v → Vals xs us → r x xs H Q →
    wpAny (model X.prog X.w) X.A (call (.builtin id) (v :: us)) (EP X pins σ Q) X.xe s
section
variable {X : Cx} {a b : Expr} {ta tb : TE} {pos : Pos}
theorem pe_ix {r : R2} (hr : IxR X r) (ha : PE X a ta) (hb : PE X b tb) (hs : PlainIx b) : PE X (.Subscript a b pos) (tOp r ta tb) := by
  intro pins s σ H Q I h
  exact Subscript_ (binT ha hb I h fun v u s2 x y H2 I2 rx ry q => hr a b pins s2 σ H2 x y v u Q I2 rx ry q (hs _ _))

def rIxL (K : PySem.W.Frag) : R2 := fun x y H Q => ∃ p xs i v, x = .ref p ∧ y = .int i ∧ SqL K H p xs ∧ atI xs i = some v ∧ Q v H
theorem ix_list : IxR X (rIxL X.K) := by
  intro value slice pins s σ H x y v u Q I rx ry h hs
  obtain ⟨p, xs, i, z, rfl, rfl, hq, he, q⟩ := h
  cases rx
  obtain ⟨t, rfl⟩ := ry
  obtain ⟨its, r, pl, hz⟩ := I.list hq
  obtain ⟨j, h1, h2, h3, h4, h5⟩ := atI_get he
  obtain ⟨w, ew, rw'⟩ := r.get h2
  have hl := r.length
  have hn := line63
  have fin : EP X pins σ Q w s := ⟨z, H, I, rw', q⟩
  by_cases h0 : 0 ≤ i
  · have hj : i.toNat = j := by
      rw [seqIndex_of h0 h5] at h1
      exact Option.some.inj h1
    exact item_listR pl.isList h0 (by omega) (by rw [hj]; simpa using ew) fin hs
  · have hj : (i + (its.toArray.size : Int)).toNat = j := by
      rw [seqIndex_neg (by omega) h4] at h1
      rw [List.size_toArray, ← hl]
      exact Option.some.inj h1
    exact subscriptTail_builtinR (x := w) pl.isList.typeIs slot_list_getitem.lookup
      (wpAny_getItem_list_neg (Q := fun r s' => r = w ∧ EP X pins σ Q r s') pl.isList (by omega) (by rw [List.size_toArray] <;> omega) (by omega) (by rw [hj]; simpa using ew) ⟨rfl, fin⟩) hs
theorem slice_bounds (lo hi : Option Int) (n : Nat) : (sliceBounds lo hi none n).1 = ((HT.sIx n 0 lo : Nat) : Int) ∧ (sliceBounds lo hi none n).2.1 = ((HT.sIx n n hi : Nat) : Int) ∧ (sliceBounds lo hi none n).2.2 = 1 := by
  refine ⟨?_, ?_, rfl⟩
  · cases lo with
    | none => simp [sliceBounds, HT.sIx]
    | some i =>
      simp only [sliceBounds, HT.sIx, Option.getD_none, show (1 : Int) > 0 by decide, if_true]
      by_cases h : i < 0
      · simp only [h, if_true] <;> omega
      · simp only [h, if_false] <;> omega
  · cases hi with
    | none => simp [sliceBounds, HT.sIx]
    | some i =>
      simp only [sliceBounds, HT.sIx, Option.getD_none, show (1 : Int) > 0 by decide, if_true]
      by_cases h : i < 0
      · simp only [h, if_true] <;> omega
      · simp only [h, if_false] <;> omega
theorem slicePick_cut (its : List Value) (lo hi : Option Int) : slicePick its.toArray lo hi none = ((its.drop (HT.sIx its.length 0 lo)).take (HT.sIx its.length its.length hi - HT.sIx its.length 0 lo)).toArray := by
  obtain ⟨h1, h2, h3⟩ := slice_bounds lo hi its.toArray.size
  unfold slicePick
  rw [h1, h2, h3]
  simp only [sliceRange_one, pick_run, List.size_toArray] <;> rfl
def rSlL (K : PySem.W.Frag) : V → Option Int → Option Int → Hp → VK → Prop := fun x lo hi H Q => ∃ a xs, x = .ref a ∧ SqL K H a xs ∧ ∀ p, H p = none → Q (.ref p) (upd H p (.lst (cutV xs lo hi)))
theorem sl_list : SlR X (rSlL X.K) := by
  intro pins s σ H x v vl vu lo hi sl Q I rx hs pl pu h
  obtain ⟨a, xs, rfl, hx, q⟩ := h
  cases rx
  obtain ⟨its, r, ht, hz⟩ := I.list hx
  have hlen := r.length
  refine ⟨"list", _, slot_list_getitem.lookup, ht.isList.typeIs, ?_⟩
  refine wpAny_getItem_list_slice ht.isList hs pl pu .none (by simp) ?_ (by rw [List.size_toArray] <;> omega)
  rw [slicePick_cut, ← hlen]
  refine ⟨.ref s.heap.objs.size, _, I.laid (t' := s.toks) (o := .lst (cutV xs lo hi)) (fun b ob q => Heap.get?_push_of_some _ q) (Nat.le_refl _) ?_, rfl, q _ (I.hok.fresh (Nat.le_refl _))⟩
  exact ⟨Nat.le_trans (cutV_length xs lo hi) hz, _, 0, (r.drop (HT.sIx xs.length 0 lo)).take (HT.sIx xs.length xs.length hi - HT.sIx xs.length 0 lo), Heap.get?_push_size _ rfl⟩

theorem call_len_seq : CallR X (.builtin "len") (fun xs H Q => ∃ p ys, xs = [.ref p] ∧ (SqL X.K H p ys ∨ SqT X.K H p ys) ∧ Q (.int ys.length) H) := by
  intro pins s σ H xs us Q I r h
  obtain ⟨p, ys, rfl, hq, q⟩ := h
  obtain ⟨u, rfl, rx⟩ := vals1 r
  cases rx
  have hn := line63
  rcases hq with hq | hq
  · obtain ⟨its, r', pl, hz⟩ := I.list hq
    have hlen := r'.length
    exact Calls.call_len_list pl.isList (by simp only [List.size_toArray] <;> omega) ⟨.int ys.length, H, I.tok _, ⟨s.toks + 1, by rw [List.size_toArray, hlen]⟩, q⟩
  · obtain ⟨its, r', pl, hz⟩ := I.tuple hq
    have hlen := r'.length
    exact len_tuple pl (by simp only [List.size_toArray] <;> omega) ⟨.int ys.length, H, I.tok _, ⟨s.toks + 1, by rw [List.size_toArray, hlen]⟩, q⟩
theorem call_list_of : CallR X (.type "list") (fun xs H Q => ∃ p ys, xs = [.ref p] ∧ (SqL X.K H p ys ∨ SqT X.K H p ys) ∧ ∀ l, H l = none → Q (.ref l) (upd H l (.lst ys))) := by
  intro pins s σ H xs us Q I r h
  obtain ⟨p, ys, rfl, hq, q⟩ := h
  obtain ⟨u, rfl, rx⟩ := vals1 r
  cases rx
  have fin : ∀ (its : List Value), Vals ys its → ys.length ≤ sizeLine → ∀ (h' : Heap) (c' : Nat), (∀ b o', s.heap.get? b = some o' → h'.get? b = some o') →
      h'.get? s.heap.objs.size = some { cls := .type "list", dict := none, data := .seq its.toArray c', slots := #[] } → EP X pins σ Q (.ref s.heap.objs.size) { s with heap := h' } := fun its r' hz h' c' kp e =>
    ⟨.ref s.heap.objs.size, _, I.laid (t' := s.toks) kp (Nat.le_refl _) (show ObjOk X.prog X.w _ h' _ (.lst ys) from ⟨hz, its, c', r', e⟩), rfl, q _ (I.hok.fresh (Nat.le_refl _))⟩
  rcases hq with hq | hq
  · obtain ⟨its, r', pl, hz⟩ := I.list hq
    have hlen := r'.length
    obtain ⟨o, ho, hc, n, hd⟩ := pl.isList
    exact call_list_seq p (.inl rfl) ho hc hd (fun h' c' kp e => fin its r' hz h' c' kp e) (by simp only [List.size_toArray] <;> omega)
  · obtain ⟨its, r', pl, hz⟩ := I.tuple hq
    have hlen := r'.length
    obtain ⟨o, ho, hc, n, hd⟩ := pl
    exact call_list_seq p (.inr rfl) ho hc hd (fun h' c' kp e => fin its r' hz h' c' kp e) (by simp only [List.size_toArray] <;> omega)
theorem call_tuple_of : CallR X (.type "tuple") (fun xs H Q => ∃ p ys, xs = [.ref p] ∧ ((SqL X.K H p ys ∧ ∀ l, H l = none → Q (.ref l) (upd H l (.tup ys))) ∨ (SqT X.K H p ys ∧ Q (.ref p) H))) := by
  intro pins s σ H xs us Q I r h
  obtain ⟨p, ys, rfl, h⟩ := h
  obtain ⟨u, rfl, rx⟩ := vals1 r
  cases rx
  rcases h with ⟨hq, q⟩ | ⟨hq, q⟩
  · obtain ⟨its, r', pl, hz⟩ := I.list hq
    have hlen := r'.length
    refine call_tuple_list pl.isList (fun h' kp => ?_) (by simp only [List.size_toArray] <;> omega)
    have I1 : Inv X pins σ H { s with heap := h' } := I.kept (t' := s.toks) kp
    have I2 : Inv X pins σ (upd H h'.objs.size (.tup ys)) { s with heap := h'.push { cls := .type "tuple", data := .seq its.toArray } } :=
      I1.laid (t' := s.toks) (fun b o e => Heap.get?_push_of_some _ e) (Nat.le_refl _) (show ObjOk X.prog X.w _ _ _ (.tup ys) from ⟨hz, its, r', IsTup.new _ _⟩)
    exact ⟨.ref h'.objs.size, _, I2, rfl, q _ (I1.hok.fresh (Nat.le_refl _))⟩
  · obtain ⟨its, r', pl, hz⟩ := I.tuple hq
    exact call_tuple_same pl ⟨.ref p, H, I, rfl, q⟩

def tyV (K : PySem.W.Frag) (T : String) (x : V) (H : Hp) : Prop := match x with
  | .str _ => T = "str"
  | .int _ => T = "int"
  | .ref p => (T = "list" ∧ ∃ xs, SqL K H p xs) ∨ (T = "tuple" ∧ ∃ o, K.lookup p = some o ∧ o.cls = .type "tuple" ∧ o.dict = none) ∨
      (T = "dict" ∧ ((∃ kvs, H p = some (.dK kvs)) ∨ ∃ kvs, H p = some (.dT kvs))) ∨ (T = "set" ∧ ∃ S n, H p = some (.set S n))
  | _ => False
theorem tyV_is {pins : List (Addr × Obj)} {σ : St} {H : Hp} {s : Shared} {T : String} {x : V} {v : Value} (I : Inv X pins σ H s) (r : RelV x v) (ty : tyV X.K T x H) :
    s.TypeIs v T ∧ ∀ a, v = .ref a → ∃ ob, s.heap.get? a = some ob ∧ ob.dict = none := by
  cases x with
  | str z =>
    obtain ⟨t, rfl⟩ := r
    cases (show T = "str" from ty)
    exact ⟨typeIs_str s z t, fun _ e => nomatch e⟩
  | int i =>
    obtain ⟨t, rfl⟩ := r
    cases (show T = "int" from ty)
    exact ⟨typeIs_int s i t, fun _ e => nomatch e⟩
  | ref p =>
    cases r
    rcases ty with ⟨rfl, xs, hq⟩ | ⟨rfl, o, hk, hc, hd⟩ | ⟨rfl, hk⟩ | ⟨rfl, S, n, hk⟩
    · obtain ⟨its, _, pl, _⟩ := I.list hq
      refine ⟨pl.isList.typeIs, fun a e => ?_⟩
      cases e
      obtain ⟨o, n, e, c, hd, _⟩ := pl
      exact ⟨o, e, hd⟩
    · refine ⟨⟨o, I.kIn p o hk, hc⟩, fun a e => ?_⟩
      cases e
      exact ⟨o, I.kIn _ o hk, hd⟩
    · have z : ∃ o, s.heap.get? p = some o ∧ o.ExactDict := by
        rcases hk with ⟨kvs, hk⟩ | ⟨kvs, hk⟩
        · obtain ⟨_, _, _, _, o, _, _, e, ex, _⟩ := I.hok p _ hk
          exact ⟨o, e, ex⟩
        · obtain ⟨_, _, _, _, o, _, _, e, ex, _⟩ := I.hok p _ hk
          exact ⟨o, e, ex⟩
      obtain ⟨o, e, ex⟩ := z
      refine ⟨⟨o, e, ex.1⟩, fun a e2 => ?_⟩
      cases e2
      exact ⟨o, e, ex.2.1⟩
    · obtain ⟨o, _, _, _, e, ex, _⟩ := I.hok p _ hk
      refine ⟨⟨o, e, ex.1⟩, fun a e2 => ?_⟩
      cases e2
      exact ⟨o, e, ex.2.1⟩
  | _ => exact False.elim ty
def tBM (K : PySem.W.Frag) (T : String) (r : V → List V → Hp → VK → Prop) (to : TE) (t : TA) : TE := fun σ H Q => to σ H fun x H1 => tyV K T x H1 ∧ t σ H1 fun xs H2 => r x xs H2 Q
variable {o e : Expr} {es : List Expr} {to : TE} {t : TA} {name : Str} {apos cpos : Pos} {T id : String} {r : V → List V → Hp → VK → Prop}
theorem pe_bm (pa : PlainAttrs T) (slot : Slot T name id) (hty : typeOf (.builtin id) = pure (.type "method_descriptor")) (hm : MtR X id r) (ho : PE X o to) (ha : PA X (e :: es) t)
    (hbase : attributeBase o name X.env (eval o X.env) = eval o X.env := by rfl)
    (hfew : ((backTo cpos (starEach (e :: es) X.env)).all (fun x => !x.1) && (backToKw cpos (keywordEach [] X.env)).all (fun x => x.1.isSome)
      && decide ((e :: es).length + ([] : List Keyword).length + (if ([] : List Keyword).isEmpty then 0 else 1) < 30)) = true := by rfl)
    (hline : (apos.endLine == cpos.line) = true := by rfl) (hs : starEach (e :: es) X.env = (false, eval e X.env) :: starEach es X.env := by rfl) (hplain : (backTo cpos (starEach es X.env)).any (·.1) = false := by rfl) :
    PE X (.Call (.Attribute o name apos) (e :: es) [] cpos) (tBM X.K T r to t) := by
  intro pins s σ H Q I h
  refine wpAny_Call_method_late hbase hfew hline rfl (thn (ho pins s σ H _ I h) fun v s1 ⟨x, H1, I1, r1, ty, q1⟩ => ?_)
  obtain ⟨h1, h2⟩ := tyV_is I1 r1 ty
  refine ⟨T, id, pa, slot, hty, h1, h2, ?_⟩
  have hA := ha cpos pins s1 σ H1 _ I1 q1
  rw [hs] at hA ⊢
  refine Calls.callWith_builtin (by show (false || (backTo cpos (starEach es X.env)).any (·.1)) = false; rw [hplain] <;> rfl) (Calls.evalArgs_plain ?_)
  exact thn hA fun us s2 ⟨vs, H2, I2, r2, q2⟩ => hm pins s2 σ H2 x vs v us Q I2 r1 r2 q2
end
end L2

namespace L2
open PySem PySem.Spec PyProof.Rows

def MtM (X : Cx) (id : String) (r : V → List V → Hp → VK → Prop) : Prop :=
  ∀ (pins : List (Addr × Obj)) (s : Shared) (σ : St) (H : Hp) (x : V) (xs : List V) (v : Value) (us : List Value) (Q : VK), Inv X pins σ H s → RelV x v → Vals xs us → r x xs H Q →
    wpAny (model X.prog X.w) X.A (call (.builtin id) (v :: us)) (EP X pins σ Q) X.xe s

theorem Vals.one : ∀ {x : V} {us : List Value}, Vals [x] us → ∃ u, us = [u] ∧ RelV x u
  | _, _, .cons r .nil => ⟨_, rfl, r⟩
section
variable {X : Cx} {pins : List (Addr × Obj)} {σ : St} {H : Hp} {s : Shared} {l b : Addr} {xs ys zs : List V}

theorem Inv.lset {its its' : List Value} {n : Nat} {f : Array Value → Array Value} {t' : Nat} (I : Inv X pins σ H s) (hH : H l = some (.lst xs))
    (e : s.heap.get? l = some { cls := .type "list", data := .seq its.toArray n }) (hf : f its.toArray = its'.toArray) (hv : Vals ys its') (hz : ys.length ≤ sizeLine) :
    Inv X pins σ (upd H l (.lst ys)) { s with heap := s.heap.update l (Obj.mapSeq f), toks := t' } := by
  have q := PySem.IsL.update e f
  rw [hf] at q
  refine I.write (x := l) (e := l) (by rw [hH]; exact trivial) (.inl rfl) (fun b' u hb hu => (Heap.get?_update_other s.heap (Obj.mapSeq f) (Ne.symm hb)).trans hu) ⟨_, q⟩ ?_
  exact ⟨hz, its', _, hv, q⟩
theorem Inv.lnew {its : List Value} {t' : Nat} (I : Inv X pins σ H s) (hv : Vals ys its) (hz : ys.length ≤ sizeLine) :
    Inv X pins σ (upd H s.heap.objs.size (.lst ys)) { s with heap := s.heap.push { cls := .type "list", data := .seq its.toArray }, toks := t' } :=
  I.laid (fun _ _ q => Heap.get?_push_of_some _ q) (Nat.le_refl _) ⟨hz, its, 0, hv, Heap.get?_push_size _ rfl⟩
theorem Inv.fresh (I : Inv X pins σ H s) : H s.heap.objs.size = none := I.hok.fresh (Nat.le_refl _)
theorem Inv.lstM (I : Inv X pins σ H s) (hH : H l = some (.lst xs)) : xs.length ≤ sizeLine ∧ ∃ (its : List Value) (n : Nat), Vals xs its ∧ xs.length = its.length ∧ s.heap.get? l = some { cls := .type "list", data := .seq its.toArray n } := by
  obtain ⟨z, its, n, r, e⟩ := I.hok l _ hH
  exact ⟨z, its, n, r, r.length, e⟩

end

section
variable {X : Cx}

def rAppend : V → List V → Hp → VK → Prop := fun x vs H Q => ∃ l xs y, x = .ref l ∧ vs = [y] ∧ H l = some (.lst xs) ∧ xs.length < sizeLine ∧ Q .non (upd H l (.lst (xs ++ [y])))
theorem mt_append : MtM X "list.append" rAppend := by
  intro pins s σ H x vs v us Q I rx rv h
  obtain ⟨l, xs, y, rfl, rfl, hH, hz, q⟩ := h
  cases rx
  obtain ⟨u, rfl, ru⟩ := rv.one
  obtain ⟨z, its, n, r, hl, e⟩ := I.lstM hH
  refine call_meets F.slot_list_append ⟨_, e, rfl⟩ F.entry_list_append (F.args_list_append_2 _ _) (PySem.list_append l its.toArray n u (by rw [List.size_toArray]; omega)) ⟨e, ?_⟩
  refine ⟨.non, _, I.lset (its' := its ++ [u]) hH e (by simp) (r.append (.cons ru .nil)) ?_, rfl, q⟩
  rw [List.length_append, List.length_singleton]
  omega

def rCat : R2 := fun x y H Q => ∃ l b xs zs, x = .ref l ∧ y = .ref b ∧ H l = some (.lst xs) ∧ H b = some (.lst zs) ∧ xs.length + zs.length ≤ sizeLine ∧ ∀ p, H p = none → Q (.ref p) (upd H p (.lst (xs ++ zs)))
theorem op_cat : OpR X (binaryOp .Add) rCat := by
  intro pins s σ H x y v u Q I rx ry h
  obtain ⟨l, b, xs, zs, rfl, rfl, hH, hB, hz, q⟩ := h
  cases rx
  cases ry
  obtain ⟨z, its, n, r, hl, e⟩ := I.lstM hH
  obtain ⟨z2, its2, n2, r2, hl2, e2⟩ := I.lstM hB
  refine PySem.P.add_list e e2 ?_ (by rw [List.size_toArray, List.size_toArray]; omega)
  have ea : its.toArray ++ its2.toArray = (its ++ its2).toArray := by simp
  rw [ea]
  exact ⟨.ref _, _, I.lnew (t' := s.toks) (r.append r2) (by rw [List.length_append]; omega), rfl, q _ I.fresh⟩
end

section
variable {prog : Program} {w : World} {A : Around} {E : Value → Shared → Prop} {s : Shared}
end

section
variable {X : Cx}
end
end L2

namespace Att
open PySem PySem.W PySem.Calls PyProof.Rows

theorem ints_of_wellAll {P : Params} {h : Heap} : ∀ (ns : List Int) (vs : List Value), WellAll P h vs (ns.map WData.int) → IntsAre vs ns := by
  intro ns
  induction ns with
  | nil =>
    intro vs w
    rw [List.map_nil] at w
    cases w
    exact .nil
  | cons n ns ih =>
    intro vs w
    rw [List.map_cons] at w
    cases w with
    | cons a b =>
      cases a
      exact .cons _ _ (ih _ b)

theorem script_of {l : OpenLaw} {n : Nat} (hn : l.most = some n) {P : Params} {h : Heap} {args : List WData} {vals : List Value}
    (hpre : l.row.toRowW.claim.pre args = true) (hwl : WellAll P h vals args) :
    ∃ a vs ns, vals = [Value.ref a] ∧ args = [WData.list (ns.map WData.int)] ∧ h.get? a = some { cls := .type "list", data := .seq vs.toArray } ∧ IntsAre vs ns ∧ ns.length ≤ n := by
  have hsh : WShape.hasAll [] args [.list .int] = true := (pre_splitW hpre).1
  have hc : l.pre.holds [] { args := args } = true := (pre_splitW hpre).2
  obtain ⟨d, r, rfl, h1, h2⟩ := hasAllW_cons hsh
  obtain rfl := hasAllW_nil h2
  obtain ⟨xs, rfl, h3⟩ := hasW_list h1
  obtain ⟨ns, rfl⟩ := items_int h3
  have hlen : ns.length ≤ n := by
    unfold OpenLaw.pre at hc
    have h4 : (WTm.not (.lt (.lit (.int (n : Int))) (.len (.arg 0)))).holds [] { args := [.list (ns.map .int)] } = true := by
      have h4 := (holds_andW hc).1
      rw [hn] at h4
      exact h4
    have h5 := condW_of h4 (w_not (w_lt w_lit (w_len_list (w_arg rfl))))
    rw [List.length_map] at h5
    refine Nat.le_of_not_lt fun q => ?_
    have q' : (n : Int) < ((ns.length : Nat) : Int) := by omega
    first
      | (rw [decide_eq_true q'] at h5; exact absurd h5 (by decide))
      | (simp at h5; omega)
  cases hwl with
  | cons w1 w2 =>
    cases w2
    cases w1 with
    | list ho hall => exact ⟨_, _, ns, rfl, rfl, ho, ints_of_wellAll ns _ hall, hlen⟩

theorem post_true (l : OpenLaw) (args : List WData) : l.row.toRowW.claim.post args (.bool true) args = true :=
  postW_of (r := l.row.toRowW) (X := (true == true))
    (show WShape.has [] (.bool true) .bool = true by first | rfl | decide | simp [WShape.has, WShape.arms, WShape.armsAll])
    (show (WTm.eq .res (.lit (.bool true))).value [] { args := args, res := some (.bool true), after := args } = some (.bool (true == true)) from w_eq_bool (w_res rfl) w_lit) rfl

theorem attach_call {l : OpenLaw} {n : Nat} {q : Program} {loose : List Str} {XP : (Str → Option Value) → Heap → Prop} {YP : World → Heap → Prop} {d : DefRec}
    (hn : l.most = some n) (hdf : d.params.defaults = [])
    (call : ∀ (w : World) (s₀ s₁ : Shared) (mg mb : Str → Option Value) (fa : Addr) (o : Obj) (pm cd doc : Value) (a : Addr) (vs : List Value) (ns : List Int),
      Ground q loose [] XP w s₀ mg mb s₁.heap → YP w s₁.heap →
      s₁.heap.get? fa = some o → o.data = .func (docDef d.name d.params d.body d.scope pm cd doc) → s₁.heap.CodeRec cd d.name → mg d.name = some (.ref fa) →
      s₁.heap.get? a = some { cls := .type "list", data := .seq vs.toArray } → IntsAre vs ns → ns.length ≤ n → s₁.gens = #[] →
      codeAny (model l.prog w) callerA (.call (.ref fa) ⟨[.ref a], []⟩) (fun r s' => r = .ok (.ret (.bool true)) ∧ OldK s₁.heap s'.heap ∧ s'.os = s₁.os ∧ AllBare s'.gens) s₁) :
    WalkO q loose XP YP l.row.toRowW d [] (fun f vs => PySem.call f vs) := by
  intro w s₀ s₁ mg mb G Y fa o pm cd doc dV kV ho hd hcd hD hmg hg args vals as hpre hlay hrd hwl hlo
  obtain rfl : dV = .none := Dflts.none hD hdf
  obtain rfl : kV = .none := Dflts.noKw hD
  obtain ⟨a, vs, ns, rfl, rfl, hobj, hints, hlen⟩ := script_of hn hpre hwl
  refine enter_call (codeAny_mono (call w s₀ s₁ mg mb fa o pm cd doc a vs ns G Y ho (fd_plain hd) hcd hmg hobj hints hlen hg) fun r s' hq => ?_)
  obtain ⟨rfl, h2, h3, h4⟩ := hq
  exact ⟨.inl ⟨.bool true, .bool true, [], rfl, fun _ => rfl, .bool true, post_true l _, fun _ => ⟨List.Pairwise.nil, fun _ hm => (nomatch hm)⟩⟩, h2, h3, h4⟩

section
variable {prog : Program} {w : World} {A : Around} {E : Value → Shared → Prop} {s : Shared} {K : Frag}

end
end Att

namespace L2
open PySem PySem.Spec PyProof.Rows

theorem vals_ints : ∀ {vs : List Value} {ns : List Int}, IntsAre vs ns → Vals (ns.map V.int) vs
  | _, _, .nil => .nil
  | _, _, .cons n t h => .cons ⟨t, rfl⟩ (vals_ints h)

def Only (H : Hp) : Prop := ∀ b, H b = none ∨ ∃ o xs, H b = some (.frz o (.lst xs))

theorem law_call {P : Program} {w : World} {K : PySem.W.Frag} {mg mb : Str → Option Value} {CX : CXT} {k : Nat} {fa a : Addr} {fd : FuncData} {x : Str} {sp : Sp} {s₁ : Shared} {vs : List Value} {ns : List Int}
    (KX : K.In s₁.heap) (hns : s₁.heap.Ns mainGlobals mg) (hb : s₁.heap.Ns builtinsNs mb) (hbb : ∀ x : Str, x ≠ "__name__" → mb x = bootBuiltins x) (hlim : s₁.heap.NoLimit) (hg : s₁.gens = #[])
    (ha : s₁.heap.get? a = some { cls := .type "list", data := .seq vs.toArray }) (hi : IntsAre vs ns) (hl : ns.length ≤ sizeLine) (hr : Room k callerA)
    (F : ∀ base : Heap, K.In base → base.Ns mainGlobals mg → FnOk P w K mg base CX k fa fd [x] sp) (hbind : ∀ (s : Shared) (u : Value), BindsTo s fd ⟨[u], []⟩ [(x, u)])
    (hsp : ∀ H : Hp, Only H → SqL K H a (ns.map V.int) → sp [.ref a] H (fun v _ => v = .bl true) fun _ _ _ => False)
    (hCX : ∀ H e s', CX [] H s₁ (fun _ _ _ => False) e s' → False) :
    codeAny (model P w) callerA (.call (.ref fa) ⟨[.ref a], []⟩) (fun r s' => r = .ok (.ret (.bool true)) ∧ OldK s₁.heap s'.heap ∧ s'.os = s₁.os ∧ AllBare s'.gens) s₁ := by
  have rv := vals_ints hi
  have lenV := hi.length
  -- from an abstract heap in which nothing but the script may be tracked
  have core : ∀ H : Hp, Only H → SqL K H a (ns.map V.int) → HOk P w H s₁.heap → (∀ b, H b ≠ none → b = a) → (H a ≠ none → K.lookup a = none) →
      codeAny (model P w) callerA (.call (.ref fa) ⟨[.ref a], []⟩) (fun r s' => r = .ok (.ret (.bool true)) ∧ OldK s₁.heap s'.heap ∧ s'.os = s₁.os ∧ AllBare s'.gens) s₁ := by
    intro H hO hS hok hA hK
    have base_of : ∀ {b : Addr} {o : Obj}, s₁.heap.get? b = some o → H b = none → (hidT s₁.heap H).get? b = some o := fun e n => hidT_get e n
    have noA : ∀ {b : Addr} {o : Obj} {es : Array DictEntry} {ep : Nat}, s₁.heap.get? b = some o → o.data = .dict es ep → H b = none := fun {b o es ep} e d => by
      cases q : H b with
      | none => rfl
      | some u =>
        have e' : b = a := hA b (by rw [q]; simp)
        subst e'
        rw [ha] at e; cases e
        have d' : Data.seq vs.toArray _ = Data.dict es ep := d
        cases d'
    have nsK : ∀ {b : Addr} {m : Str → Option Value}, s₁.heap.Ns b m → (hidT s₁.heap H).Ns b m := fun {b m} ⟨o, es, ep, e, d, r⟩ => ⟨o, es, ep, base_of e (noA e d), d, r⟩
    have hKb : K.In (hidT s₁.heap H) := fun b o e => base_of (KX b o e) (by
      cases q : H b with
      | none => rfl
      | some u =>
        have e' : b = a := hA b (by rw [q]; simp)
        subst e'
        rw [hK (by rw [q]; simp)] at e; cases e)
    have hM : Mod K mg (hidT s₁.heap H) := ⟨hKb, nsK hns, ⟨mb, nsK hb, hbb⟩, let ⟨mc, h1, h2⟩ := hlim; ⟨mc, nsK h1, h2⟩⟩
    have e0 : Env0 P w K mg (hidT s₁.heap H) callerA [] s₁ H := ⟨rfl, hM, fun b o e => of_hidT e, Nat.le_of_eq (hidT_size _ _), trivial, fun b hb => absurd (show b ∈ ([] : List Addr) from hb) (by simp), hok, .of_eq hg⟩
    refine codeAny_mono ((F _ hKb (nsK hns)).run callerA [] s₁ H ⟨[.ref a], []⟩ [.ref a] [.ref a] _ _ hr e0 (hbind s₁ (.ref a)) (.cons rfl .nil) (hsp H hO hS)) fun r s' h => ?_
    cases r with
    | error e => exact (hCX H e s' h).elim
    | ok fl =>
      cases fl with
      | next => exact False.elim h
      | brk => exact False.elim h
      | cont => exact False.elim h
      | ret u =>
        obtain ⟨v, H', os, bare, un, hok', r', q⟩ := h
        have q' : v = .bl true := q
        subst q'
        obtain rfl : u = Value.bool true := r'
        refine ⟨rfl, OldK.of_keep fun b o e => ?_, os, bare⟩
        cases q : H b with
        | none => exact un.keep b o e q (by intro z; exact absurd (show b ∈ ([] : List Addr) from z) (by simp)) (by simp)
        | some u =>
          rcases hO b with z | ⟨ob, xs, z⟩
          · rw [q] at z; cases z
          · have z2 := un.frzs b ob _ z
            obtain ⟨e1, _⟩ := hok b _ z
            obtain ⟨e2, _⟩ := hok' b _ z2
            rw [e] at e1; cases e1
            exact e2
  cases hk : K.lookup a with
  | some o =>
    -- the script is one of the module's own objects
    have e := KX a o hk
    rw [ha] at e
    cases e
    refine core (fun _ => none) (fun _ => .inl rfl) (.inr ⟨_, vs.toArray, _, hk, rfl, rfl, rfl, by rw [List.size_toArray, lenV]; exact hl, by simpa using rv⟩) (fun b u z => by have z' : (none : Option HO) = some u := z; cases z') (fun b z => absurd rfl z) fun z => absurd rfl z
  | none =>
    refine core (fun b => if b = a then some (.frz { cls := .type "list", data := .seq vs.toArray } (.lst (ns.map V.int))) else none) (fun b => ?_) (.inl (.inr ⟨{ cls := .type "list", data := .seq vs.toArray }, if_pos rfl⟩)) (fun b u z => ?_) (fun b z => ?_) fun _ => hk
    · by_cases hb : b = a
      · exact .inr ⟨_, _, if_pos hb⟩
      · exact .inl (if_neg hb)
    · by_cases hb : b = a
      · have z' := (if_pos hb).symm.trans z
        cases z'
        subst hb
        exact ⟨ha, by rw [List.length_map]; exact hl, vs, _, rv, ha⟩
      · have z' := (if_neg hb).symm.trans z
        cases z'
    · by_cases hb : b = a
      · exact hb
      · exact absurd (if_neg hb) z
end L2

namespace L2
open PySem PySem.Spec PyProof.Rows

theorem walk_of {l : PySem.W.OpenLaw} {n k : Nat} {q : Program} {loose : List Str} {XP : (Str → Option Value) → Heap → Prop} {YP : World → Heap → Prop} {d : DefRec} {K : Params → PySem.W.Frag} {CX : World → CXT} {sp : World → Sp} {x : Str}
    (hn : l.most = some n) (hn2 : n ≤ sizeLine) (hdf : d.params.defaults = []) (hr : Room k callerA)
    (hY : ∀ (w : World) (h : Heap), YP w h → (K w.params).In h)
    (F : ∀ (w : World) (mg : Str → Option Value) (fa : Addr) (h : Heap), (K w.params).In h → h.Ns mainGlobals mg → mg d.name = some (.ref fa) →
      ∃ fd : FuncData, (∀ (s : Shared) (u : Value), BindsTo s fd ⟨[u], []⟩ [(x, u)]) ∧
        ∀ base : Heap, (K w.params).In base → base.Ns mainGlobals mg → FnOk l.prog w (K w.params) mg base (CX w) k fa fd [x] (sp w))
    (hsp : ∀ (w : World) (H : Hp) (a : Addr) (ns : List Int), ns.length ≤ n → Only H → SqL (K w.params) H a (ns.map V.int) → sp w [.ref a] H (fun v _ => v = .bl true) fun _ _ _ => False)
    (hCX : ∀ (w : World) (H : Hp) (s : Shared) (e : Value) (s' : Shared), CX w [] H s (fun _ _ _ => False) e s' → False) :
    PySem.W.WalkO q loose XP YP l.row.toRowW d [] (fun f vs => PySem.call f vs) := by
  refine Att.attach_call hn hdf fun w s₀ s₁ mg mb fa o pm cd doc a vs ns G Y ho hd hcd hmg hobj hints hlen hg => ?_
  have KX := hY w _ Y
  obtain ⟨fd, hb, hF⟩ := F w mg fa _ KX G.T.g hmg
  exact law_call KX G.T.g G.T.b G.T.builtins G.T.nolimit hg hobj hints (Nat.le_trans hlen hn2) hr hF hb (fun H hO hS => hsp w H a ns hlen hO hS) fun H e s' => hCX w H s₁ e s'
end L2

namespace L2
open PySem PySem.Spec PyProof.Rows

def defArgs (s : Stmt) : Arguments := match s with
  | .FunctionDef _ a _ _ _ _ _ _ _ _ => a
  | _ => { posonlyargs := [], args := [], vararg := none, kwonlyargs := [], kw_defaults := [], kwarg := none, defaults := [] }
def defBody (s : Stmt) : List Stmt := match s with
  | .FunctionDef _ _ b _ _ _ _ _ _ _ => b
  | _ => []
def defScope (s : Stmt) : Scope := match s with
  | .FunctionDef _ _ _ _ _ _ sc _ _ _ => sc
  | _ => { kind := .function, names := [], isGenerator := false, isCoroutine := false }

abbrev CX0 : CXT := fun _ _ _ _ _ _ => False
abbrev E0 : XK := fun _ _ _ => False
theorem pass0 {X : Cx} : Passes CX0 X E0 := fun _ _ _ _ _ _ _ h => h.elim

structure Fun (K : PySem.W.Frag) (x qual : Str) (st : Stmt) (f : Addr) (fd : FuncData) : Prop where
  ex : ∃ (oc : Value) (od : Option Addr) (kV doc pm : Value) (an : Option Addr) (cdv ct : Value) (osl : Array (Option Value)),
    fd = PySem.W.fnOf x qual (defArgs st) (defBody st) (defScope st) .none kV doc pm an cdv ct ∧ K.lookup f = some ⟨oc, od, .func fd, osl⟩ ∧ PySem.W.codeIn K cdv qual = true
  kp : PySem.W.keepIn K (.ref f) = true
section
variable {P : Program} {w : World} {K : PySem.W.Frag} {mg : Str → Option Value} {base : Heap}
theorem Fun.ok {x qual : Str} {st : Stmt} {f : Addr} {fd : FuncData} {N ps : List Str} {k : Nat} {sp : Sp} (F : Fun K x qual st f fd) (S : FnScope N ps (defScope st)) (len : ∀ vs H Q E, sp vs H Q E → vs.length = ps.length)
    (hbody : ∀ (cdv : Value) (A : Around) (outer : List Env) (s : Shared) (H : Hp) (vs : List V) (Q : VK) (E : XK), Room k (A.deeper (envOfC qual (defScope st) s.heap.objs.size f cdv)) → sp vs H Q E →
      ∃ t, PSs (cxOf CX0 P w K mg base N qual (defScope st) f cdv A outer s H E).nox (defBody st) t ∧ t { nx := fun _ H' => Q .non H', rt := Q } (start N vs) H) : FnOk P w K mg base CX0 (k + 1) f fd ps sp := by
  obtain ⟨oc, od, kV, doc, pm, an, cdv, ct, osl, rfl, lk, hcd⟩ := F.ex
  refine fn_of lk hcd S len fun A outer s H vs Q E hr hsp => ?_
  obtain ⟨t, h, q⟩ := hbody cdv A outer s H vs Q E hr hsp
  exact ⟨t, h.nox, q⟩
theorem Fun.binds {x qual : Str} {st : Stmt} {f : Addr} {fd : FuncData} {ps : List Str} (F : Fun K x qual st f fd)
    (h : ∀ (kV doc pm : Value) (an : Option Addr) (cdv ct : Value) (us : List Value), us.length = ps.length → bindArgs (PySem.W.fnOf x qual (defArgs st) (defBody st) (defScope st) .none kV doc pm an cdv ct) ⟨us, []⟩ = pure (ps.zip us)) : Binds K fd ps [] := by
  obtain ⟨oc, od, kV, doc, pm, an, cdv, ct, osl, rfl, lk, hcd⟩ := F.ex
  exact .all (h kV doc pm an cdv ct)
theorem fun_mk {x qual : Str} {st : Stmt} {f : Addr} {oc : Value} {od an : Option Addr} {osl : Array (Option Value)} {kV doc pm cdv ct : Value} (l : K.lookup f = some ⟨oc, od, .func (PySem.W.fnOf x qual (defArgs st) (defBody st) (defScope st) .none kV doc pm an cdv ct), osl⟩)
    (c : PySem.W.codeIn K cdv qual = true) (k : PySem.W.keepIn K (.ref f) = true) : Fun K x qual st f (PySem.W.fnOf x qual (defArgs st) (defBody st) (defScope st) .none kV doc pm an cdv ct) := ⟨⟨oc, od, kV, doc, pm, an, cdv, ct, osl, rfl, l, c⟩, k⟩
end
theorem small1000 {n : Nat} (h : n ≤ 1000) : n < sizeLine := Nat.lt_of_le_of_lt h (by decide)

section
variable {X : Cx}
theorem pv (i : Nat) {x : Str} {pos : Pos} (hN : X.N[i]? = some x := by rfl) (hv : Vis X.env.scope x := by first | exact Or.inl rfl | exact Or.inr (Or.inl rfl) | exact Or.inr (Or.inr rfl)) (hd : (x == ("__debug__" : Str)) = false := by decide)
    (hcd : (x == ("__classdict__" : Str)) = false := by decide) : PE X (.Name x pos) (tVar i) := pe_var hN hv hd hcd
end

theorem iteF {A B : Prop} (h : B) : if false = true then A else B := by
  rw [if_neg Bool.false_ne_true]
  exact h
theorem iteT {A B : Prop} (h : A) : if true = true then A else B := by
  rw [if_pos rfl]
  exact h
theorem ite2 {c A B : Prop} [Decidable c] (h1 : c → A) (h2 : ¬ c → B) : if c then A else B := by
  by_cases h : c
  · rw [if_pos h]
    exact h1 h
  · rw [if_neg h]
    exact h2 h
def Same (H H' : Hp) : Prop := ∀ b o, H b = some o → H' b = some o
theorem Same.trans {H H1 H2 : Hp} (a : Same H H1) (b : Same H1 H2) : Same H H2 := fun c o h => b c o (a c o h)
theorem Same.free {H H' : Hp} (e : Same H H') {l : Addr} (h : H' l = Option.none) : H l = Option.none := by
  cases q : H l with
  | none => rfl
  | some o =>
    rw [e l o q] at h
    cases h
theorem Same.seq {K : PySem.W.Frag} {H H' : Hp} {a : Addr} {xs : List V} (e : Same H H') (h : SqL K H a xs) : SqL K H' a xs := by
  rcases h with (h | ⟨o, h⟩) | h
  · exact .inl (.inl (e _ _ h))
  · exact .inl (.inr ⟨o, e _ _ h⟩)
  · exact .inr h

end L2

set_option Elab.async false
set_option linter.all false
set_option maxRecDepth 100000
set_option maxHeartbeats 4000000
namespace L3
open PySem PySem.Spec PyProof.Rows L2
abbrev St := L2.St

theorem same_new {H : Hp} {p : Addr} (h : H p = none) (o : HO) : Same H (upd H p o) := fun b u q => by rw [upd_ne (ne_of_none q h)]; exact q
section
variable {X : Cx}

def tMid (t : TS) : TS := fun D σ H => ∃ mid : St → Hp → Prop, t { D with nx := mid } σ H ∧ ∀ σ' H', mid σ' H' → D.nx σ' H'
theorem ps_mid {st : Stmt} {t : TS} (h : PS X st t) : PS X st (tMid t) := by
  intro pins s σ H D I hq
  obtain ⟨mid, ht, hm⟩ := hq
  refine thn (h pins s σ H _ I ht) fun f s' q => ?_
  cases f with
  | next => obtain ⟨σ', H', I', q⟩ := q; exact ⟨σ', H', I', hm _ _ q⟩
  | brk => exact q
  | cont => exact q
  | ret v => exact q

theorem call_isinst : CallR X (.builtin "isinstance") (fun xs H Q => ∃ x n t b, xs = [x, .ty n] ∧ TyOf X.K H x t ∧ PySem.W.kitOne X.K t (.type n) = some b ∧ Q (.bl b) H) := by
  intro pins s σ H xs us Q I r h
  obtain ⟨x, n, t, b, rfl, ty, e, q⟩ := h
  obtain ⟨u, v, rfl, rx, ry⟩ := vals2 r
  cases ry
  exact isinst_ok I rx ty e fun tk => ⟨.bl b, H, I.tok tk, rfl, q⟩

mutual
def RdD (K : PySem.W.Frag) (H : Hp) : V → PyData → Prop
  | x, .none => x = .non
  | x, .bool b => x = .bl b
  | x, .int i => x = .int i
  | x, .str z => x = .str z
  | x, .list ds => ∃ a xs, x = .ref a ∧ SqL K H a xs ∧ RdDs K H xs ds
  | x, .tuple ds => ∃ a xs, x = .ref a ∧ SqT K H a xs ∧ RdDs K H xs ds
  | _, .dict _ => False
def RdDs (K : PySem.W.Frag) (H : Hp) : List V → List PyData → Prop
  | [], [] => True
  | x :: xs, d :: ds => RdD K H x d ∧ RdDs K H xs ds
  | [], _ :: _ => False
  | _ :: _, [] => False
end
mutual
theorem reads_of {pins : List (Addr × Obj)} {σ : St} {H : Hp} {s : Shared} (I : Inv X pins σ H s) : ∀ (d : PyData) (x : V) (v : Value), RelV x v → RdD X.K H x d → ∃ as, Reads s.heap v d as
  | .none, x, v, r, h => by
    rw [RdD] at h; subst h; cases r; exact ⟨_, .none⟩
  | .bool b, x, v, r, h => by
    rw [RdD] at h; subst h; cases r; exact ⟨_, .bool b⟩
  | .int i, x, v, r, h => by
    rw [RdD] at h; subst h; obtain ⟨t, rfl⟩ := r; exact ⟨_, .int i t⟩
  | .str z, x, v, r, h => by
    rw [RdD] at h; subst h; obtain ⟨t, rfl⟩ := r; exact ⟨_, .str z t⟩
  | .list ds, x, v, r, h => by
    rw [RdD] at h
    obtain ⟨a, xs, rfl, hq, hs⟩ := h
    cases r
    obtain ⟨its, rv, p, hz⟩ := I.list hq
    obtain ⟨o, ho, hc, n, hd⟩ := p.isList
    obtain ⟨as, ra⟩ := readsAll_of I ds xs its rv hs
    exact ⟨_, .list ho hc hd (by simpa using ra)⟩
  | .tuple ds, x, v, r, h => by
    rw [RdD] at h
    obtain ⟨a, xs, rfl, hq, hs⟩ := h
    cases r
    obtain ⟨its, rv, p, hz⟩ := I.tuple hq
    obtain ⟨o, ho, hc, n, hd⟩ := p
    obtain ⟨as, ra⟩ := readsAll_of I ds xs its rv hs
    exact ⟨_, .tuple ho hc hd (by simpa using ra)⟩
  | .dict _, x, v, r, h => by rw [RdD] at h; exact h.elim
theorem readsAll_of {pins : List (Addr × Obj)} {σ : St} {H : Hp} {s : Shared} (I : Inv X pins σ H s) : ∀ (ds : List PyData) (xs : List V) (us : List Value), Vals xs us → RdDs X.K H xs ds → ∃ as, ReadsAll s.heap us ds as
  | [], xs, us, r, h => by
    cases r with
    | nil => exact ⟨_, .nil⟩
    | cons r rr => rw [RdDs] at h; exact h.elim
  | d :: ds, xs, us, r, h => by
    cases r with
    | nil => rw [RdDs] at h; exact h.elim
    | cons r rr =>
      rw [RdDs] at h
      obtain ⟨a1, h1⟩ := reads_of I d _ _ r h.1
      obtain ⟨a2, h2⟩ := readsAll_of I ds _ _ rr h.2
      exact ⟨_, .cons h1 h2⟩
end
def rEqD (K : PySem.W.Frag) : R2 := fun x y H Q => ∃ dx dy, RdD K H x dx ∧ RdD K H y dy ∧ dx.canLay0 = true ∧ dy.canLay0 = true ∧ min dx.depth dy.depth ≤ 60 ∧ Q (.bl (PyData.eqv dx dy)) H
theorem op_eqD (hu : X.A.units + 64 < cLine) : OpR X (compareOp .Eq) (rEqD X.K) := by
  intro pins s σ H x y v u Q I rx ry h
  obtain ⟨dx, dy, h1, h2, c1, c2, hd, q⟩ := h
  obtain ⟨as, ra⟩ := reads_of I dx x v rx h1
  obtain ⟨bs, rb⟩ := reads_of I dy y u ry h2
  exact SeqAt.compareEq_reads ra rb c1 c2 (by omega) ⟨.bl _, H, I, rfl, q⟩
end

theorem rd_ints {K : PySem.W.Frag} {H : Hp} : ∀ ns : List Int, RdDs K H (ns.map V.int) (ns.map PyData.int)
  | [] => by rw [List.map_nil, List.map_nil, RdDs]; trivial
  | n :: r => by
    rw [List.map_cons, List.map_cons, RdDs, RdD]
    exact ⟨rfl, rd_ints r⟩
theorem rd_list {K : PySem.W.Frag} {H : Hp} {a : Addr} {ns : List Int} (h : SqL K H a (ns.map V.int)) : RdD K H (.ref a) (.list (ns.map PyData.int)) := by
  rw [RdD]
  exact ⟨a, _, rfl, h, rd_ints ns⟩
theorem lay_ints : ∀ ns : List Int, PyData.canLayAll0 (ns.map PyData.int) = true
  | [] => rfl
  | n :: r => by
    rw [List.map_cons, PyData.canLayAll0, PyData.canLay0, lay_ints r]; rfl
theorem depth_ints : ∀ ns : List Int, PyData.depthAll (ns.map PyData.int) = 0
  | [] => rfl
  | n :: r => by
    rw [List.map_cons, PyData.depthAll, depth_ints r]; rfl
theorem eqv_ints : ∀ ns ms : List Int, PyData.eqvAll (ns.map PyData.int) (ms.map PyData.int) = decide (ns = ms)
  | [], [] => rfl
  | [], _ :: _ => by simp [PyData.eqvAll]
  | _ :: _, [] => by simp [PyData.eqvAll]
  | n :: r, m :: t => by
    rw [List.map_cons, List.map_cons, PyData.eqvAll, PyData.eqv, eqv_ints r t, Bool.eq_iff_iff]
    simp
section
variable {X : Cx}
def rEqL (K : PySem.W.Frag) : R2 := fun x y H Q => ∃ (a b : Addr) (ns ms : List Int), x = .ref a ∧ y = .ref b ∧ SqL K H a (ns.map V.int) ∧ SqL K H b (ms.map V.int) ∧ Q (.bl (decide (ns = ms))) H
theorem depth_list (ns : List Int) : (PyData.list (ns.map PyData.int)).depth = 1 := by rw [PyData.depth, depth_ints]
theorem op_eqL (hu : X.A.units + 64 < cLine) : OpR X (compareOp .Eq) (rEqL X.K) := by
  intro pins s σ H x y v u Q I rx ry h
  obtain ⟨a, b, ns, ms, rfl, rfl, h1, h2, q⟩ := h
  refine op_eqD hu pins s σ H _ _ v u Q I rx ry ⟨_, _, rd_list h1, rd_list h2, by rw [PyData.canLay0]; exact lay_ints ns, by rw [PyData.canLay0]; exact lay_ints ms, by rw [depth_list, depth_list]; decide, ?_⟩
  rw [PyData.eqv, eqv_ints]
  exact q
end

section
variable {X : Cx}
end
end L3

set_option Elab.async false
set_option linter.all false
set_option maxRecDepth 100000
set_option maxHeartbeats 4000000
namespace L3
open PySem PySem.Spec PyProof.Rows L2

section
variable {P : Program} {w : World} {A : Around} {R : Result → Shared → Prop}
end
section
variable {X : Cx}
end
end L3

set_option Elab.async false
set_option linter.all false
set_option maxRecDepth 100000
set_option maxHeartbeats 4000000
namespace L3
open PySem PySem.Spec PyProof.Rows L2

def clStep (env : Env) (cs : List (Str × Addr)) (x : Str × NameKind) : List (Str × Addr) := if x.2 = .free then (x.1, (env.cells.lookup x.1).getD 0) :: cs else cs
def clOf (env : Env) (names : List (Str × NameKind)) : List (Str × Addr) := names.foldl (clStep env) []
theorem forIn_fold {α β : Type} {f : α → β → Sem (ForInStep β)} (g : β → α → β) : ∀ (l : List α) (b : β), (∀ x ∈ l, ∀ c, f x c = pure (.yield (g c x))) → forIn l b f = pure (l.foldl g b)
  | [], _, _ => rfl
  | x :: l, b, h => by
    rw [List.forIn_cons, h x List.mem_cons_self, pure_bind]
    exact forIn_fold g l (g b x) fun y hy => h y (List.mem_cons_of_mem _ hy)
theorem closure_is {scope : Scope} {env : Env} (h : ∀ y ∈ scope.names, y.2 = .free → ∃ c, env.cells.lookup y.1 = some c) : closureFor scope env = pure (clOf env scope.names) := by
  simp only [closureFor]
  rw [forIn_fold (clStep env) scope.names [] fun x hx cs => ?_]
  · rfl
  · obtain ⟨n, kind⟩ := x
    by_cases hk : kind = .free
    · obtain ⟨c, hc⟩ := h _ hx hk
      have hc' : env.cells.lookup n = some c := hc
      have e1 : (kind == NameKind.free) = true := by rw [hk]; rfl
      have e2 : clStep env cs (n, kind) = (n, c) :: cs := by
        unfold clStep
        rw [if_pos hk]
        show (n, (env.cells.lookup n).getD 0) :: cs = _
        rw [hc']; rfl
      rw [e2]
      simp only [e1, if_true, cellOf, hc', pure_bind]
    · have e1 : (kind == NameKind.free) = false := by simpa using hk
      have e2 : clStep env cs (n, kind) = cs := by
        unfold clStep
        rw [if_neg hk]
      rw [e2]
      simp only [e1, Bool.false_eq_true, if_false]
theorem cl_sub {env : Env} : ∀ (names : List (Str × NameKind)) (cs : List (Str × Addr)), (∀ y ∈ names, y.2 = .free → ∃ c, env.cells.lookup y.1 = some c) → (∀ x c, cs.lookup x = some c → env.cells.lookup x = some c) →
    ∀ x c, (names.foldl (clStep env) cs).lookup x = some c → env.cells.lookup x = some c
  | [], _, _, hc => hc
  | y :: r, cs, h, hc => by
    refine cl_sub r (clStep env cs y) (fun z hz => h z (List.mem_cons_of_mem _ hz)) fun x c e => ?_
    unfold clStep at e
    split at e
    · rename_i hk
      obtain ⟨d, hd⟩ := h y List.mem_cons_self hk
      rw [List.lookup_cons] at e
      split at e
      · rename_i hx
        have hx' : x = y.1 := by simpa using hx
        rw [hd] at e
        cases e
        rw [hx']; exact hd
      · exact hc x c e
    · exact hc x c e
theorem cl_keep {env : Env} : ∀ (names : List (Str × NameKind)) (cs : List (Str × Addr)) (x : Str), (∃ c, cs.lookup x = some c) → ∃ c, (names.foldl (clStep env) cs).lookup x = some c
  | [], _, _, h => h
  | y :: r, cs, x, ⟨c, h⟩ => by
    refine cl_keep r (clStep env cs y) x ?_
    unfold clStep
    split
    · rw [List.lookup_cons]
      split
      · exact ⟨_, rfl⟩
      · exact ⟨c, h⟩
    · exact ⟨c, h⟩
theorem cl_has {env : Env} : ∀ (names : List (Str × NameKind)) (cs : List (Str × Addr)) (y : Str × NameKind), y ∈ names → y.2 = .free → ∃ c, (names.foldl (clStep env) cs).lookup y.1 = some c
  | [], _, y, hy, _ => absurd hy (by simp)
  | z :: r, cs, y, hy, hk => by
    rcases List.mem_cons.mp hy with e | e
    · subst e
      refine cl_keep r _ y.1 ?_
      unfold clStep
      rw [if_pos hk, List.lookup_cons]
      simp
    · exact cl_has r _ y e hk
theorem relabel_free {env : Env} : ∀ {names : List (Str × NameKind)} {x : Str}, names.lookup x = some .free →
    (names.map fun (n, k) => if (k == NameKind.free && env.scope.kind == .function && env.kindOf n == some .cell) then (n, NameKind.cell) else (n, k)).lookup x = some .cell ∨
    (names.map fun (n, k) => if (k == NameKind.free && env.scope.kind == .function && env.kindOf n == some .cell) then (n, NameKind.cell) else (n, k)).lookup x = some .free
  | [], _, h => by simp at h
  | (n, k) :: r, x, h => by
    have ih := @relabel_free env r x
    show List.lookup x ((if (k == NameKind.free && env.scope.kind == .function && env.kindOf n == some .cell) = true then (n, NameKind.cell) else (n, k)) :: _) = _ ∨ List.lookup x ((if (k == NameKind.free && env.scope.kind == .function && env.kindOf n == some .cell) = true then (n, NameKind.cell) else (n, k)) :: _) = _
    cases hx : x == n with
    | true =>
      simp only [List.lookup_cons, hx] at h
      cases h
      by_cases hc : (NameKind.free == NameKind.free && env.scope.kind == .function && env.kindOf n == some .cell) = true
      · rw [if_pos hc]; simp only [List.lookup_cons, hx]; exact .inl trivial
      · rw [if_neg hc]; simp only [List.lookup_cons, hx]; exact .inr trivial
    | false =>
      simp only [List.lookup_cons, hx] at h
      by_cases hc : (k == NameKind.free && env.scope.kind == .function && env.kindOf n == some .cell) = true
      · rw [if_pos hc]; simp only [List.lookup_cons, hx]; exact ih h
      · rw [if_neg hc]; simp only [List.lookup_cons, hx]; exact ih h
theorem relabel_of {env : Env} : ∀ {names : List (Str × NameKind)} {x : Str}, (∀ y ∈ names, y.2 ≠ .cell) →
    ((names.map fun (n, k) => if (k == NameKind.free && env.scope.kind == .function && env.kindOf n == some .cell) then (n, NameKind.cell) else (n, k)).lookup x = some .cell ∨
    (names.map fun (n, k) => if (k == NameKind.free && env.scope.kind == .function && env.kindOf n == some .cell) then (n, NameKind.cell) else (n, k)).lookup x = some .free) → ∃ y ∈ names, y.1 = x ∧ y.2 = .free
  | [], _, _, h => by simp at h
  | (n, k) :: r, x, hc0, h => by
    have ih := @relabel_of env r x fun y hy => hc0 y (List.mem_cons_of_mem _ hy)
    have hk : k ≠ .cell := hc0 (n, k) List.mem_cons_self
    cases hx : x == n with
    | true =>
      have hx' : x = n := by simpa using hx
      refine ⟨(n, k), List.mem_cons_self, hx'.symm, ?_⟩
      by_cases hf : k = .free
      · exact hf
      · have e1 : (k == NameKind.free) = false := by simpa using hf
        exfalso
        have h' : List.lookup x ((if (k == NameKind.free && env.scope.kind == .function && env.kindOf n == some .cell) = true then (n, NameKind.cell) else (n, k)) :: _) = some .cell ∨ List.lookup x ((if (k == NameKind.free && env.scope.kind == .function && env.kindOf n == some .cell) = true then (n, NameKind.cell) else (n, k)) :: _) = some .free := h
        simp only [e1, Bool.false_and, Bool.false_eq_true, if_false, List.lookup_cons, hx] at h'
        rcases h' with z | z
        · exact hk (Option.some.inj z)
        · exact hf (Option.some.inj z)
    | false =>
      have h' : List.lookup x ((if (k == NameKind.free && env.scope.kind == .function && env.kindOf n == some .cell) = true then (n, NameKind.cell) else (n, k)) :: _) = some .cell ∨ List.lookup x ((if (k == NameKind.free && env.scope.kind == .function && env.kindOf n == some .cell) = true then (n, NameKind.cell) else (n, k)) :: _) = some .free := h
      by_cases hc : (k == NameKind.free && env.scope.kind == .function && env.kindOf n == some .cell) = true
      · rw [if_pos hc] at h'
        simp only [List.lookup_cons, hx] at h'
        obtain ⟨y, hy, r1, r2⟩ := ih h'
        exact ⟨y, List.mem_cons_of_mem _ hy, r1, r2⟩
      · rw [if_neg hc] at h'
        simp only [List.lookup_cons, hx] at h'
        obtain ⟨y, hy, r1, r2⟩ := ih h'
        exact ⟨y, List.mem_cons_of_mem _ hy, r1, r2⟩

def cxComp (X : Cx) (scope : Scope) (NB : List Str) (C : Addr) (s₂ : Shared) (H : Hp) (fp : List Addr) : Cx :=
  { X with N := NB, s₀ := s₂, H₀ := H, env := compEnvC scope (clOf X.env scope.names) C X.env, outer := X.stack, ex := fp, fn := fun _ => false, pn := [], xe := fun _ _ => False }
def blk (src : List (Option Nat)) (σ : St) : St := src.map fun o => o.bind fun i => (σ[i]?).join
def chk (N : List Str) (scope : Scope) (NB : List Str) (src : List (Option Nat)) : Bool :=
  decide (NB.length = src.length) && (NB.zip src).all fun p => match p.2 with
    | none => true
    | some i => decide (N[i]? = some p.1) && decide (scope.names.lookup p.1 = some .free)
def chkS (scope sc : Scope) : Bool :=
  decide (scope.kind = .function) && scope.names.all fun y => decide (y.2 ≠ .cell) && (decide (y.2 ≠ .local) || decide (scope.names.lookup y.1 = some .local)) &&
    (decide (y.2 ≠ .free) || (decide (sc.names.lookup y.1 = some .cell) || decide (sc.names.lookup y.1 = some .free)))

def PIf (X : Cx) (ifs : List Expr) (t : TT) : Prop :=
  ∀ (pins : List (Addr × Obj)) (s : Shared) (σ : St) (H : Hp) (Q : Bool → Hp → Prop), Inv X pins σ H s → t σ H Q →
    wpAny (model X.prog X.w) X.A (forIn ifs true fun c r => if r = true then do let ok ← isTrue c X.env (eval c X.env); pure (ForInStep.yield ok) else pure (ForInStep.yield r)) (TP X pins σ Q) X.xe s
theorem pif_nil {X : Cx} : PIf X [] (fun _ H Q => Q true H) := fun _ _ _ H _ I h => wpAny_tests_nil ⟨H, I, h⟩
theorem pif_one {X : Cx} {c : Expr} {t : TT} (h : PT X c t) : PIf X [c] t := fun pins s σ H Q I q => wpAny_tests_one (h pins s σ H Q I q)

def CompW (J : It) (g : TG) (tt : TT) (te : TE) (Q : VK) (D : Addr) (σ₀ : St) (H₀ : Hp) : Prop :=
  ∃ W : Nat → Nat → List V → St → Hp → Prop, (∃ m, W 0 m [] σ₀ (upd H₀ D (.lst []))) ∧
    ∀ i m ys σ' H', W i m ys σ' H' →
      ((J.stop i H' ∧ Q (.ref D) H') ∨ (J.go i H' ∧ ∃ M : List V → St → Hp → Prop, (∀ ys' σ3 H3, M ys' σ3 H3 → ∃ m', m' < m ∧ W (i + 1) m' ys' σ3 H3) ∧ ∀ x H2, J.yld i H' x H2 → g x σ' H2 fun σ3 H3 => tt σ3 H3 fun b H4 =>
        if b = true then te σ3 H4 fun v H5 => H5 D = some (.lst ys) ∧ ys.length < sizeLine ∧ M (ys ++ [v]) σ3 (upd H5 D (.lst (ys ++ [v])))
        else M ys σ3 H4))
def tComp (src : List (Option Nat)) (wi : TI) (g : TG) (tt : TT) (te : TE) : TE := fun σ H Q => wi σ H fun J H1 => ∀ D, H1 D = none → CompW J g tt te Q D (blk src σ) H1

section
variable {X : Cx} {elt tg iter : Expr} {ifs : List Expr} {scope sc : Scope} {N NB : List Str} {src : List (Option Nat)} {wi : TI} {g : TG} {tt : TT} {te : TE} {pos : Pos}

theorem chkS_of (h : chkS scope sc = true) : scope.kind = .function ∧ (∀ y ∈ scope.names, y.2 ≠ .cell) ∧ (∀ y ∈ scope.names, y.2 = .local → scope.names.lookup y.1 = some .local) ∧
    ∀ y ∈ scope.names, y.2 = .free → sc.names.lookup y.1 = some .cell ∨ sc.names.lookup y.1 = some .free := by
  unfold chkS at h
  rw [Bool.and_eq_true, decide_eq_true_iff, List.all_eq_true] at h
  obtain ⟨h1, h2⟩ := h
  refine ⟨h1, fun y hy => ?_, fun y hy z => ?_, fun y hy z => ?_⟩
  · have := h2 y hy
    simp only [Bool.and_eq_true, decide_eq_true_iff] at this
    exact this.1.1
  · have := h2 y hy
    simp only [Bool.and_eq_true, Bool.or_eq_true, decide_eq_true_iff] at this
    rcases this.1.2 with q | q
    · exact absurd z q
    · exact q
  · have := h2 y hy
    simp only [Bool.and_eq_true, Bool.or_eq_true, decide_eq_true_iff] at this
    rcases this.2 with q | q
    · exact absurd z q
    · exact q
theorem chk_of (h : chk N scope NB src = true) : NB.length = src.length ∧ ∀ (j i : Nat) (x : Str), NB[j]? = some x → src[j]? = some (some i) → N[i]? = some x ∧ scope.names.lookup x = some .free := by
  unfold chk at h
  rw [Bool.and_eq_true, decide_eq_true_iff, List.all_eq_true] at h
  refine ⟨h.1, fun j i x e1 e2 => ?_⟩
  have hm : (x, some i) ∈ NB.zip src := List.mem_of_getElem? (i := j) (by rw [List.getElem?_zip_eq_some]; exact ⟨e1, e2⟩)
  have := h.2 _ hm
  simp only [Bool.and_eq_true, decide_eq_true_iff] at this
  exact this

theorem comp_core (hS : chkS scope sc = true) (hN : chk N scope NB src = true) (hsc : X.env.scope = sc) (hXN : X.N = N) (hc : X.calm = true)
    (hg : ∀ C s₂ H fp, PG (cxComp X scope NB C s₂ H fp) tg g) (hi : ∀ C s₂ H fp, PIf (cxComp X scope NB C s₂ H fp) ifs tt) (he : ∀ C s₂ H fp, PE (cxComp X scope NB C s₂ H fp) elt te)
    {pins : List (Addr × Obj)} {σ : St} {H2 : Hp} {s2 : Shared} {it : Addr} {fp : List Addr} {tn : Nat → Heap → Prop} {J : It} {Q : VK} {E : Value → Shared → Prop}
    (I2 : Inv X pins σ H2 s2) (T : Turn X.prog X.w X.K tg J fp it tn) (st2 : tn 0 s2.heap) (f2 : ∀ b ∈ fp, FpOk X pins H2 b) (q : ∀ D, H2 D = none → CompW J g tt te Q D (blk src σ) H2)
    {RR : Value → Addr → Result → Shared → Prop}
    (hRR : ∀ (D C : Addr) (s' : Shared) (H' : Hp), Inv X pins σ H' s' → Q (.ref D) H' → (∃ m, s'.heap.Ns C m) → H' C = none → C ≠ X.env.locals → X.s₀.heap.objs.size ≤ C → (∀ x c, X.env.cells.lookup x = some c → c ≠ C) → (∀ p ∈ X.pn ++ pins, p.1 ≠ C) → RR (.ref D) C (.ok .next) s') :
    wpAny (model X.prog X.w) X.A (newList []) (fun acc s₃ => wpAny (model X.prog X.w) X.A (newFunctionEnv scope X.env.globals (clOf X.env scope.names) [] X.env.qual none .none (some X.env)) (fun cenv s₄ =>
      codeAny (model X.prog X.w) X.A (.compStart (.ListComp elt [⟨tg, iter, ifs, 0⟩] scope pos) 0 (.ref it) acc { cenv with scope := relabel scope X.env }) (RR acc cenv.locals) s₄) E s₃) E s2 := by
  obtain ⟨hkind, hcell, hnames, hfree⟩ := chkS_of hS
  obtain ⟨hlen, hsrc⟩ := chk_of hN
  subst hsc hXN
  have hcl0 : ∀ y ∈ scope.names, y.2 = .free → ∃ c, X.env.cells.lookup y.1 = some c := fun y hy z => I2.ok.has y.1 (hfree y hy z)
  have clsub : ∀ x c, (clOf X.env scope.names).lookup x = some c → X.env.cells.lookup x = some c := cl_sub scope.names [] hcl0 (fun x c e => by cases e)
  refine wpAny_newObj_type (wpAny_newFunctionEnv hcell (by intro y hy; simp at hy) (fun h₁ hns₁ hsb₁ => ?_) hkind)
  dsimp only at hns₁ hsb₁ ⊢
  generalize hH3 : s2.heap.push { cls := .type "list", dict := none, data := .seq ([] : List Value).toArray } = H3 at hns₁ hsb₁ ⊢
  have hC : H3.objs.size = s2.heap.objs.size + 1 := by rw [← hH3, Heap.size_push]
  have hDC : s2.heap.objs.size ≠ H3.objs.size := by rw [hC]; exact Nat.ne_of_lt (Nat.lt_succ_self _)
  have old : ∀ b o, s2.heap.get? b = some o → h₁.get? b = some o := fun b o e => by
    have hb := Heap.lt_size e
    exact hsb₁.extBut b o (by rw [hC]; exact Nat.ne_of_lt (Nat.lt_succ_of_lt hb)) (Heap.get?_push_of_some _ (hH3 ▸ Heap.get?_push_of_some _ e))
  have hacc : h₁.get? s2.heap.objs.size = some { cls := .type "list", data := .seq ([] : List Value).toArray } :=
    hsb₁.extBut _ _ hDC (Heap.get?_push_of_some _ (hH3 ▸ Heap.get?_push_size _ rfl))
  have hDn : H2 s2.heap.objs.size = none := I2.hok.fresh (Nat.le_refl _)
  have hCn : H2 H3.objs.size = none := I2.hok.fresh (by rw [hC]; exact Nat.le_succ _)
  have fpl : ∀ b ∈ fp, b < s2.heap.objs.size := fun b hb => by
    obtain ⟨o, e, _⟩ := T.obj _ _ st2 b hb
    exact Heap.lt_size e
  have cellLt : ∀ x c, X.env.cells.lookup x = some c → c < s2.heap.objs.size := fun x c e => by
    obtain ⟨v, z⟩ := I2.cell x c e
    exact z.lt
  have cneC : ∀ x c, X.env.cells.lookup x = some c → c ≠ H3.objs.size := fun x c e => by
    rw [hC]
    exact Nat.ne_of_lt (Nat.lt_succ_of_lt (cellLt x c e))
  let Y : Cx := cxComp X scope NB H3.objs.size s2 H2 fp
  have okY : Y.Ok := {
    mod := I2.ok.mod
    kind := hkind
    glob := I2.ok.glob
    blt := I2.ok.blt
    above := by show s2.heap.objs.size ≤ H3.objs.size; rw [hC]; exact Nat.le_succ _
    inj := fun x y c e1 e2 => I2.ok.inj x y c (clsub x c e1) (clsub y c e2)
    has := fun x hx => by
      obtain ⟨y, hy, rfl, hyf⟩ := relabel_of (env := X.env) hcell hx
      exact cl_has scope.names [] y hy hyf
    cab := fun x c z _ => by cases z
    hd := I2.ok.hd
    frames := I2.ok.frames
    stk := .inl rfl
    exf := fun b hb => ⟨by show b ≠ H3.objs.size; rw [hC]; exact Nat.ne_of_lt (Nat.lt_succ_of_lt (fpl b hb)), fun x c e => (f2 b hb).2.2.2.2.1 x c (clsub x c e)⟩
    bs := I2.bs
    bsz := Nat.le_trans I2.ok.bsz I2.sz
    noex := fun b o e hb => by
      rcases (f2 b hb).2.2.2.1 with z | z
      · exact I2.ok.noex b o e z
      · exact absurd (Nat.lt_of_lt_of_le (Heap.lt_size (I2.ok.bs b o e).1) z) (Nat.lt_irrefl _)
    exfs := fun b hb z => by
      rcases List.mem_cons.mp (I2.stkSub b z) with y | y
      · exact (f2 b hb).2.1 y
      · exact (f2 b hb).2.2.1 y
    funs := I2.stack
    frf := I2.stkFree }
  have IY0 : Inv Y [] (blk src σ) (upd H2 s2.heap.objs.size (.lst [])) { s2 with heap := h₁, toks := s2.toks + ([] : List (Str × Value)).length } := {
    ok := okY
    os := rfl
    bare := I2.bare
    base := Un.laid old (Nat.le_refl _) hDn
    loc := by
      refine ⟨_, hns₁, fun j x v e1 e2 e3 => ?_⟩
      have e2' : (src.map fun o => o.bind fun i => (σ[i]?).join)[j]? = some (some v) := e2
      rw [List.getElem?_map] at e2'
      cases hj : src[j]? with
      | none => rw [hj] at e2'; cases e2'
      | some o =>
        rw [hj] at e2'
        have e4 : (o.bind fun i => (σ[i]?).join) = some v := Option.some.inj e2'
        cases o with
        | none => cases e4
        | some i =>
          have e5 : (σ[i]?).join = some v := e4
          obtain ⟨hNi, hlk⟩ := hsrc j i x e1 hj
          have e6 : σ[i]? = some (some v) := by
            cases hs : σ[i]? with
            | none => rw [hs] at e5; cases e5
            | some w' => rw [hs] at e5; have : w' = some v := e5; rw [this]
          obtain ⟨m, hn, hl⟩ := I2.loc
          have hkx := hfree (x, .free) (PySem.mem_of_lookup hlk) rfl
          obtain ⟨u, ru, lk⟩ := hl i x v hNi e6 (hkx.elim (fun z => .inr (.inl z)) fun z => .inr (.inr z))
          refine ⟨u, ru, ?_⟩
          rcases lk with ⟨k, _⟩ | ⟨k, c, ec, ic⟩
          · exfalso
            have k' : X.env.scope.names.lookup x = some .local := k
            rcases hkx with z | z
            · rw [k'] at z; cases z
            · rw [k'] at z; cases z
          · obtain ⟨c', hc'⟩ := cl_has (env := X.env) scope.names [] (x, .free) (PySem.mem_of_lookup hlk) rfl
            have hcc : c' = c := Option.some.inj ((clsub x c' hc').symm.trans ec)
            subst hcc
            refine .inr ⟨relabel_free (env := X.env) hlk, c', hc', ?_⟩
            obtain ⟨o, ho, hd⟩ := ic
            exact ⟨o, old c' o ho, hd⟩
    cell := fun x c e => by
      obtain ⟨v, o, ho, hd⟩ := I2.cell x c (clsub x c e)
      exact ⟨v, o, old c o ho, hd⟩
    free := by
      show upd H2 s2.heap.objs.size (.lst []) H3.objs.size = none
      rw [upd_ne (Ne.symm hDC)]; exact hCn
    freeC := fun x c e => by
      have := cellLt x c (clsub x c e)
      rw [upd_ne (Nat.ne_of_lt this)]
      exact I2.freeC x c (clsub x c e)
    pin := fun p hp => absurd (show p ∈ ([] : List (Addr × Obj)) from hp) (by simp)
    hok := I2.hok.laid old (Nat.le_refl _) ⟨Nat.zero_le _, [], 0, .nil, hacc⟩
    len := by show (src.map _).length = NB.length; rw [List.length_map]; exact hlen.symm }
  have statY : ∀ {H' : Hp}, (∀ b ∈ fp, H' b = none) → ∀ b ∈ fp, FpOk Y [] H' b := fun hn b hb =>
    ⟨hn b hb, (okY.exf b hb).1, okY.exfs b hb, .inl hb, (okY.exf b hb).2, fun p hp => absurd (show p ∈ ([] : List (Addr × Obj)) from hp) (by simp)⟩
  have back : ∀ {pl : List (Addr × Obj)} {σ' : St} {H' : Hp} {s' : Shared}, Inv Y pl σ' H' s' → Inv X pins σ H' s' := fun {pl σ' H' s'} IY =>
    I2.call' (ch := fp) IY.os IY.base IY.hok IY.bare fun b hb => ⟨(f2 b hb).2.2.2.1, (f2 b hb).2.1, (f2 b hb).2.2.2.2.1, (f2 b hb).2.2.2.2.2⟩
  obtain ⟨W, ⟨m0, w0⟩, turn⟩ := q s2.heap.objs.size hDn
  have loop : ∀ s₃ : Shared, s₃ = { s2 with heap := h₁, toks := s2.toks + ([] : List (Str × Value)).length } →
      codeAny (model X.prog X.w) X.A (.compLoop (.ListComp elt [⟨tg, iter, ifs, 0⟩] scope pos) 0 (.ref it) (.ref s2.heap.objs.size) Y.env) (RR (.ref s2.heap.objs.size) H3.objs.size) s₃ := by
    rintro s₃ rfl
    refine codeAny_loop rfl (fun n s' => ∃ i ys σ' H', Inv Y [] σ' H' s' ∧ tn i s'.heap ∧ (∀ b ∈ fp, H' b = none) ∧ W i n ys σ' H') (fun n s3 hI => ?_) m0
      ⟨0, [], _, _, IY0, T.keep _ _ _ st2 (fun b _ o e => old b o e), fun b hb => by rw [upd_ne (Nat.ne_of_lt (fpl b hb))]; exact (f2 b hb).1, w0⟩
    obtain ⟨i, ys, σ3, H4, I3, st3, fr3, w3⟩ := hI
    show wpAny _ X.A ((compTurn (.ListComp elt [⟨tg, iter, ifs, 0⟩] scope pos) 0 (.ref it) (.ref s2.heap.objs.size) Y.env).onRaise (fun x => do noteFrame x Y.env; theTreesLotGoes x)) _ _ s3
    refine wpAny_noted ?_
    rw [compTurn_list]
    rcases turn i n ys σ3 H4 w3 with ⟨stop, qn⟩ | ⟨go, M, hM, step⟩
    · refine wpAny_bind (wpAny_standAt (wpAny_bind (thn (T.done Y rfl rfl rfl hc i [] s3 σ3 H4 _ I3 (statY fr3) st3 stop) fun r s4 ⟨hr, I4⟩ => ?_)))
      subst hr
      refine wpAny_pure ?_
      obtain ⟨m, hm, _⟩ := I4.loc
      refine hRR _ _ s4 H4 (back I4) qn ⟨m, hm⟩ I4.free ?_ ?_ cneC fun p hp => ?_
      · show H3.objs.size ≠ X.env.locals
        rw [hC]
        exact Nat.ne_of_gt (Nat.lt_succ_of_lt I2.lt)
      · rw [hC]
        exact Nat.le_succ_of_le I2.sz
      · rw [hC]
        exact Nat.ne_of_lt (Nat.lt_succ_of_lt (Heap.lt_size (I2.pin p hp).1))
    · refine wpAny_bind (wpAny_standAt (wpAny_bind (thn (T.item Y rfl rfl rfl hc i [] s3 σ3 H4 _ I3 (statY fr3) st3 go) fun r s4 ⟨u, hr, h4⟩ => ?_)))
      subst hr
      refine wpAny_bind (thn h4 fun _ s5 ⟨x, H5, I5, r5, y5, st5, fr5⟩ => ?_)
      have I5' := I5.pinned (statY fr5) (T.obj _ _ st5)
      have again : ∀ {σ7 : St} {H7 : Hp} {s7 : Shared} {ys' : List V}, Inv Y ([] ++ pinsAt fp s5.heap) σ7 H7 s7 → (∃ m', m' < n ∧ W (i + 1) m' ys' σ7 H7) →
          ∃ m, m < n ∧ ∃ i ys σ' H', Inv Y [] σ' H' s7 ∧ tn i s7.heap ∧ (∀ b ∈ fp, H' b = none) ∧ W i m ys σ' H' := fun {σ7 H7 s7 ys'} I7 ⟨m', hm, w7⟩ => by
        refine ⟨m', hm, i + 1, ys', σ7, H7, I7.unpinned, T.keep _ _ _ st5 fun b hb o e => (I7.pin (b, o) (List.mem_append_right _ (List.mem_append_right _ (mem_pinsAt hb e)))).1, fun b hb => ?_, w7⟩
        obtain ⟨o, e, d⟩ := T.obj _ _ st5 b hb
        exact (I7.pin (b, o) (List.mem_append_right _ (List.mem_append_right _ (mem_pinsAt hb e)))).2.1
      refine wpAny_bind (wpAny_mono (hg H3.objs.size s2 H2 fp _ s5 σ3 H5 x u _ I5' r5 (step x H5 y5)) (fun _ s6 ⟨σ6, H6, I6, q6⟩ => ?_) fun _ _ z => z.elim)
      refine wpAny_bind (wpAny_mono (hi H3.objs.size s2 H2 fp _ s6 σ6 H6 _ I6 q6) (fun ok s7 ⟨H7, I7, q7⟩ => ?_) fun _ _ z => z.elim)
      cases ok with
      | false =>
        exact wpAny_pure ⟨rfl, again I7 (hM _ _ _ (by simpa using q7))⟩
      | true =>
        refine wpAny_bind (wpAny_bind (wpAny_mono (he H3.objs.size s2 H2 fp _ s7 σ6 H7 _ I7 (by simpa using q7)) (fun v s8 h8 => ?_) fun _ _ z => z.elim))
        obtain ⟨y, H8, I8, r8, hD8, hz8, q8⟩ := h8
        refine wpAny_bind (wpAny_mono (mt_append (X := Y) _ s8 σ6 H8 (.ref s2.heap.objs.size) [y] (.ref s2.heap.objs.size) [v] (fun _ H9 => H9 = upd H8 s2.heap.objs.size (.lst (ys ++ [y]))) I8 rfl (.cons r8 .nil) ⟨_, ys, y, rfl, rfl, hD8, hz8, rfl⟩)
          (fun _ s9 ⟨_, H9, I9, _, e9⟩ => ?_) fun _ _ z => z.elim)
        subst e9
        exact wpAny_pure (wpAny_pure ⟨rfl, again I9 (hM _ _ _ q8)⟩)
  exact codeAny_compStart_list (loop _ rfl) (T.self _ 0 _ _ _ (T.keep _ _ _ st2 fun b _ o e => old b o e) (loop _ rfl))

theorem pe_comp (N : List Str) (NB : List Str) (src : List (Option Nat)) (sc : Scope) (hc : X.calm = true) (hit : PI X tg iter wi)
    (hg : ∀ C s₂ H fp, PG (cxComp X scope NB C s₂ H fp) tg g) (hi : ∀ C s₂ H fp, PIf (cxComp X scope NB C s₂ H fp) ifs tt) (he : ∀ C s₂ H fp, PE (cxComp X scope NB C s₂ H fp) elt te)
    (hS : chkS scope sc = true := by decide +kernel) (hN : chk N scope NB src = true := by decide +kernel) (hsc : X.env.scope = sc := by rfl) (hXN : X.N = N := by rfl)
    (hs : ∀ x, foldedSetIterable iter X.env x = pure x := by intro _; rfl) : PE X (.ListComp elt [⟨tg, iter, ifs, 0⟩] scope pos) (tComp src wi g tt te) := by
  intro pins s σ H Q I h
  obtain ⟨hkind, hcell, hnames, hfree⟩ := chkS_of hS
  rw [eval_ListComp]
  refine wpAny_comprehension_free (use := none) rfl hs (closure_is fun y hy z => I.ok.has y.1 (by have := hfree y hy z; rw [← hsc] at this; exact this)) hkind hnames (thn (hit pins s σ H _ I h) fun v s1 h1 => thn h1 fun itv s2 h2 => ?_)
  obtain ⟨it, fp, tn, J, H2, rfl, I2, T, st2, f2, q⟩ := h2
  refine comp_core hS hN hsc hXN hc hg hi he I2 T st2 f2 q (RR := fun acc C => compPost (model X.prog X.w) X.A X.xe none (EP X pins σ Q) acc C) ?_
  intro D C s' H' I' q' hm hC h1 h2 h3 h4
  obtain ⟨m, hm⟩ := hm
  exact ⟨m, hm, fun h' hs' => ⟨.ref D, H', I'.turned (t' := s'.toks) (fun b o hb e => (hs'.2 b hb).trans e) hC (Ne.symm h1 |>.symm) (.inr h2) h3 h4, rfl, q'⟩⟩
end
end L3
namespace L3
open PySem PySem.Spec PyProof.Rows L2
section
variable {K : PySem.W.Frag} {a : Addr} {xs : List V} {g : TG} {tt : TT} {te : TE} {Q : VK} {D : Addr} {σ : St} {H : Hp}
theorem comp_list (Pv : Nat → List V → St → Hp → Prop) (h0 : Pv 0 [] σ (upd H D (.lst []))) (hl : ∀ i ys σ H, i ≤ xs.length → Pv i ys σ H → SqL K H a xs)
    (hs : ∀ i x ys σ H, xs[i]? = some x → Pv i ys σ H → g x σ H fun σ3 H3 => tt σ3 H3 fun b H4 => if b = true then te σ3 H4 fun v H5 => H5 D = some (.lst ys) ∧ ys.length < sizeLine ∧ Pv (i + 1) (ys ++ [v]) σ3 (upd H5 D (.lst (ys ++ [v]))) else Pv (i + 1) ys σ3 H4)
    (hd : ∀ ys σ H, Pv xs.length ys σ H → Q (.ref D) H) : CompW (Itl K a) g tt te Q D σ H := by
  refine ⟨fun i m ys σ H => m = xs.length - i ∧ i ≤ xs.length ∧ Pv i ys σ H, ⟨xs.length, by simp, Nat.zero_le _, h0⟩, ?_⟩
  rintro i m ys σ H ⟨rfl, hi, p⟩
  have q := hl i ys σ H hi p
  by_cases hlt : i < xs.length
  · refine .inr ⟨⟨xs, xs[i], q, by simp [hlt]⟩, Pv (i + 1), fun ys' σ' H' p' => ⟨xs.length - (i + 1), by omega, rfl, hlt, p'⟩, fun x H' y => ?_⟩
    obtain ⟨e, y⟩ := y
    subst e
    exact hs i x ys σ _ (y xs q) p
  · have e : i = xs.length := by omega
    subst e
    exact .inl ⟨⟨xs, q, Nat.le_refl _⟩, hd ys σ H p⟩
theorem comp_range {lo : Int} {n : Nat} (Pv : Nat → List V → St → Hp → Prop) (h0 : Pv 0 [] σ (upd H D (.lst [])))
    (hs : ∀ i ys σ H, i < n → Pv i ys σ H → g (.int (lo + i)) σ H fun σ3 H3 => tt σ3 H3 fun b H4 => if b = true then te σ3 H4 fun v H5 => H5 D = some (.lst ys) ∧ ys.length < sizeLine ∧ Pv (i + 1) (ys ++ [v]) σ3 (upd H5 D (.lst (ys ++ [v]))) else Pv (i + 1) ys σ3 H4)
    (hd : ∀ ys σ H, Pv n ys σ H → Q (.ref D) H) : CompW (Itr lo n) g tt te Q D σ H := by
  refine ⟨fun i m ys σ H => m = n - i ∧ i ≤ n ∧ Pv i ys σ H, ⟨n, by simp, Nat.zero_le _, h0⟩, ?_⟩
  rintro i m ys σ H ⟨rfl, hi, p⟩
  by_cases hlt : i < n
  · refine .inr ⟨hlt, Pv (i + 1), fun ys' σ' H' p' => ⟨n - (i + 1), by omega, rfl, hlt, p'⟩, fun x H' y => ?_⟩
    obtain ⟨e, y⟩ := y
    subst e y
    exact hs i ys σ _ hlt p
  · have e : i = n := by omega
    subst e
    exact .inl ⟨Nat.le_refl _, hd ys σ H p⟩
end
end L3

set_option Elab.async false
set_option linter.all false
set_option maxRecDepth 100000
set_option maxHeartbeats 4000000
namespace L3
open PySem PySem.Spec PyProof.Rows L2

structure LLr (H : Hp) (p : Addr) (ps : List Addr) (L : List (List Int)) : Prop where
  len : ps.length = L.length
  at' : H p = some (.lst (ps.map V.ref))
  each : ∀ k : Nat, k < L.length → H (ps.getD k 0) = some (.lst ((L.getD k []).map V.int))
structure LL (H H' : Hp) (p : Addr) (ps : List Addr) (L : List (List Int)) : Prop where
  rd : LLr H' p ps L
  fresh : ∀ x ∈ ps, H x = none
  nd : ps.Nodup
  np : p ∉ ps
section
variable {X : Cx}
end
theorem iteB {c : Bool} {A B : Prop} (hc : c = true) (h : A) : if c = true then A else B := by rw [if_pos hc]; exact h
theorem same_upd {H H' : Hp} {p : Addr} {o : HO} (e : Same H H') (h : H p = none) : Same H (upd H' p o) := fun b u z => by rw [upd_ne (ne_of_none z h)]; exact e b u z
end L3

set_option Elab.async false
set_option linter.all false
set_option maxRecDepth 100000
set_option maxHeartbeats 4000000
namespace L3
open PySem PySem.Spec PyProof.Rows L2

section
variable {prog : Program} {w : World} {A : Around} {E : Value → Shared → Prop} {s : Shared} {I : Addr}
end
section
variable {prog : Program} {w : World} {A : Around} {E : Value → Shared → Prop} {s : Shared} {l I : Addr} {items : Array Value}
end
section
variable {X : Cx}
theorem call_sum_ints (hc : X.calm = true) : CallR X (.builtin "sum") (fun xs H Q => ∃ (p : Addr) (ns : List Int), xs = [.ref p] ∧ SqL X.K H p (ns.map V.int) ∧ ns.length ≤ 2 ^ 20 ∧ (∀ x ∈ ns, -(2 ^ 40) ≤ x ∧ x ≤ 2 ^ 40) ∧ Q (.int ns.sum) H) := by
  intro pins s σ H xs us Q I r h
  obtain ⟨p, ns, rfl, hq, h20, h40, q⟩ := h
  obtain ⟨u, rfl, rx⟩ := vals1 r
  cases rx
  obtain ⟨its, r', pl, hz⟩ := I.list hq
  have hI := intsAre_of r'
  obtain ⟨xs, e⟩ := hI.allInts.items
  have hns : ns = xs.toList.map (·.1) := by rw [← hI.numsOf, ← nums_intItems, ← e]
  have hl := pl.isList
  rw [e] at hl
  have hfit := sumFits_small h40 h20
  have hnum : ∀ j, numAt xs j = ns.getD j 0 := fun j => by rw [hns]; exact numAt_eq xs j
  have hpre : ∀ j, preSum (numAt xs) j = (ns.take j).sum := fun j => by
    have e2 : numAt xs = fun i => ns.getD i 0 := funext hnum
    rw [e2]; exact preSum_getD ns j
  have hsz : ns.length = xs.size := by rw [hns, List.length_map, Array.length_toList]
  refine sum_intList (I.ok.hd hc) hl (fun j hj => ?_) fun h' tk t' hk => ?_
  · rw [hnum, hpre]
    exact hfit j (by omega)
  · refine ⟨.int ns.sum, H, I.kept (t' := tk) hk, ⟨t', ?_⟩, q⟩
    rw [hpre, ← hsz, List.take_length]
end
end L3

set_option Elab.async false
set_option linter.all false
set_option maxRecDepth 100000
set_option maxHeartbeats 4000000
namespace L3
open PySem PySem.Spec PyProof.Rows L2
section
variable {X : Cx} {K : PySem.W.Frag}
end
end L3

set_option Elab.async false
set_option linter.all false
set_option maxRecDepth 100000
set_option maxHeartbeats 4000000
namespace L3
open PySem PySem.Spec PyProof.Rows L2

section
variable {P : Program} {w : World} {K : PySem.W.Frag} {mg : Str → Option Value} {base : Heap} {N : List Str} {qual : Str} {scope : Scope} {f : Addr} {cd : Value} {A : Around} {outer : List Env} {s : Shared} {H : Hp} {E : XK}

end

section
variable {P : Program} {w : World} {K : PySem.W.Frag} {mg : Str → Option Value} {base : Heap} {N : List Str} {qual : Str} {scope : Scope} {f : Addr} {cd : Value} {A : Around} {outer : List Env} {s : Shared} {H : Hp} {E : XK}
end

section
variable {X : Cx} {k : Nat} {f : Addr} {fd : FuncData} {ps : List Str} {sp : Sp} {dvs : List V} {ds : List Value} {x : Str} {p pos : Pos} {e : Expr} {es : List Expr} {t : TA}
end

section
variable {X : Cx} {pins : List (Addr × Obj)} {σ : St} {H : Hp} {s : Shared} {e : Value}
end

end L3

set_option Elab.async false
set_option linter.all false
set_option maxRecDepth 100000
set_option maxHeartbeats 4000000
namespace L3
open PySem PySem.Spec PyProof.Rows L2

section
variable {prog : Program} {w : World} {A : Around} {E : Value → Shared → Prop} {h : Heap} {g : Array GenState} {d : Drawn} {t : Nat} {os : OsState} {a C : Addr} {o : Obj} {K : PySem.W.Frag}

end

section
variable {X : Cx}
end
section
variable {K : PySem.W.Frag} {a : Addr} {xs : List V} {g : TG} {tt : TT} {te : TE} {Q : VK} {D : Addr} {σ : St} {H : Hp}
end
end L3

set_option Elab.async false
set_option linter.all false
set_option maxRecDepth 100000
set_option maxHeartbeats 4000000
namespace L3
open PySem PySem.Spec PyProof.Rows L2 PySem.Builtin PySem.Builtin.Str

section
variable {X : Cx}
end

end L3

set_option Elab.async false
set_option linter.all false
set_option maxRecDepth 100000
set_option maxHeartbeats 4000000
namespace L3
open PySem PySem.Spec PyProof.Rows L2
section
variable {X : Cx}
end
end L3

set_option Elab.async false
set_option linter.all false
set_option maxRecDepth 100000
set_option maxHeartbeats 4000000
namespace L3
open PySem PySem.Spec PyProof.Rows L2
section
variable {X : Cx}
end
end L3

set_option Elab.async false
set_option linter.all false
set_option maxRecDepth 100000
set_option maxHeartbeats 4000000
namespace L3
open PySem PySem.Spec PyProof.Rows L2
section
variable {X : Cx}
end
section
variable {K : PySem.W.Frag} {a b : Addr} {xs ys : List V} {g : TG} {tt : TT} {te : TE} {Q : VK} {D : Addr} {σ : St} {H : Hp}
end
end L3

set_option Elab.async false
set_option linter.all false
set_option maxRecDepth 100000
set_option maxHeartbeats 4000000
namespace L3
open PySem PySem.Spec PyProof.Rows L2
section
variable {P : Program} {w : World} {A : Around} {R : Result → Shared → Prop}
end
section
variable {X : Cx}
end

section
variable {X : Cx} {k : Nat} {f : Addr} {fd : FuncData} {ps : List Str} {sp : Sp} {dvs : List V} {ds : List Value} {x : Str} {p pos : Pos} {e : Expr} {es : List Expr} {t : TA}
end
end L3

set_option Elab.async false
set_option linter.all false
set_option maxRecDepth 100000
set_option maxHeartbeats 4000000
namespace L3
open PySem PySem.Spec PyProof.Rows L2
section
variable {X : Cx}
theorem log2_small {n k : Nat} (h : n < 2 ^ k) (hk : 0 < k) : n.log2 < k := by
  rcases Nat.eq_zero_or_pos n with h0 | hp
  · rw [h0]; exact hk
  · exact (Nat.log2_lt (Nat.ne_of_gt hp)).mpr h
theorem op_fdivB : OpR X (binaryOp .FloorDiv) (rI (fun _ j => 0 < j ∧ j.natAbs < 2 ^ 1000) fun i j => .int (i / j)) := opI fun i j _ _ _ _ _ hc q => by
  have h1 : (0 : Int) < j := hc.1
  exact floordiv_int (by omega) (by rw [Int.fdiv_eq_ediv_of_nonneg i (by omega)]; exact q) (.inl (PyProof.noPylong_of_log2 (Nat.lt_trans (log2_small hc.2 (by decide)) (by decide))))
end
end L3

-- CHANGE: your row's module here, as the last of these rows
set_option Elab.async false
set_option linter.all false
set_option maxRecDepth 100000
namespace L2
open PySem PySem.Spec PyProof.Rows

end L2

namespace L2
open PySem PySem.Spec PyProof.Rows

section
variable (P : Program) (w : World)
end

section
variable {P : Program} {w : World} {H H' : Hp} {h h' : Heap} {a : Addr} {o : HO}
end

section
variable {P : Program} {w : World} {H : Hp} {h h' : Heap} {x e : Addr} {o' : HO}
end

section
variable {fs fs' ex ex' : List Addr} {H H1 H2 : Hp} {h h1 h2 h' : Heap} {a x e : Addr} {o : HO}
end

end L2

namespace L2
open PySem PySem.Spec PyProof.Rows

section
variable {X : Cx} {pins : List (Addr × Obj)} {σ : List (Option V)} {H H' : Hp} {s : Shared} {h' : Heap}

end

end L2

namespace L2
open PySem PySem.Spec PyProof.Rows
section
variable {X : Cx}

variable {a b : Expr} {ta tb : TE} {pos : Pos}
variable {tA tB' : TT} {rest : List Expr}
end
end L2

namespace L2
open PySem PySem.Spec PyProof.Rows

section
variable {X : Cx} {pins : List (Addr × Obj)} {σ : St} {H : Hp} {s : Shared} {a : Addr} {xs ys : List V}
end

section
variable {X : Cx} {pins : List (Addr × Obj)} {σ : St} {H : Hp} {s : Shared} {E : Value → Shared → Prop}
end

section
variable {X : Cx} {st : Stmt} {rest : List Stmt} {t u : TS} {e : Expr} {te : TE} {pos : Pos}
end

section
variable {X : Cx} {pos : Pos}
end

section
variable {X : Cx} {pos : Pos}
end

end L2

namespace L2
open PySem PySem.Spec PyProof.Rows
section
variable {X : Cx} {tg : Expr}
end

end L2

namespace L2
open PySem PySem.Spec PyProof.Rows

section
variable {X : Cx} {a b c : Expr} {ta tb tc : TE} {pos : Pos}

end

section
variable {X : Cx} {a b c : Expr} {ta tb tc : TE} {pos : Pos}
end
end L2

namespace L2
open PySem PySem.Spec PyProof.Rows

section
variable {prog : Program} {w : World} {A : Around} {E : Value → Shared → Prop} {s : Shared} {K : PySem.W.Frag} {x dx C f : Addr} {mA : Str → Option Value} {name : Str} {v : Value}

end

section
variable {P : Program} {w : World} {H H' : Hp} {h h' : Heap} {a C dx : Addr} {fs fs' : List (Str × V)}
end

section
variable {X : Cx} {pins : List (Addr × Obj)} {σ : St} {H : Hp} {s : Shared} {a C dx : Addr} {fs : List (Str × V)} {f : Str} {v : V} {A : Around} {E : Value → Shared → Prop}

end

section
variable {X : Cx} {o e value : Expr} {f : Str} {pos pos' tpos : Pos} {ta tv : TE}
end

section
variable {X : Cx} {pins : List (Addr × Obj)} {σ : St} {H : Hp} {s : Shared} {A : Around} {E : Value → Shared → Prop} {Q : Value → Shared → Prop} {c : Value} {b : Bool}
end
end L2

namespace L2
open PySem PySem.Spec PyProof.Rows

section
variable {X : Cx} {e : Expr} {es : List Expr} {te : TE} {t : TA} {pos : Pos}
end

section
variable {X : Cx} {pins : List (Addr × Obj)} {σ : St} {H : Hp} {s s' : Shared}
end

section
variable {X : Cx} {CX : CXT} {k : Nat} {f C : Addr} {fd : FuncData} {ps : List Str} {sp : Sp} {dvs : List V} {ds : List Value} {E : XK} {x m : Str} {p pos apos : Pos} {e o : Expr} {es : List Expr} {ta : TE} {t : TA}

end

section
variable {X : Cx} {CX : CXT} {k : Nat} {f C : Addr} {fd : FuncData} {ps ks : List Str} {sp : Sp} {E : XK} {x m : Str} {p pos apos kpos : Pos} {e o : Expr} {es : List Expr} {kws : List Keyword} {te ta : TE} {t tk : TA} {nm : Option Str}
variable {g : List Value → List Value → List Value} {gV : List V → List V → List V}
end

end L2

namespace L2
open PySem PySem.Spec PyProof.Rows
section
variable {X : Cx} {x : Str} {p pos : Pos} {e : Expr} {es : List Expr} {t : TA} {id T : String} {r : List V → Hp → VK → Prop}

end
end L2

namespace L2
open PySem PySem.Spec PyProof.Rows

section
variable {κ : Type} [DecidableEq κ]
def valV (kvs : List (κ × V)) (k : κ) : Option V := (kvs.find? fun kv => decide (kv.1 = k)).map (·.2)
def putK (kvs : List (κ × V)) (k : κ) (v : V) : List (κ × V) :=
  if (kvs.any fun kv => decide (kv.1 = k)) = true then kvs.map (fun kv => if kv.1 = k then (kv.1, v) else kv) else kvs ++ [(k, v)]
theorem valV_pos {p : κ × V} {r : List (κ × V)} {k : κ} (e : p.1 = k) : valV (p :: r) k = some p.2 := by simp [valV, List.find?_cons, e]
theorem valV_neg {p : κ × V} {r : List (κ × V)} {k : κ} (e : ¬ p.1 = k) : valV (p :: r) k = valV r k := by simp [valV, List.find?_cons, e]
theorem valV_any (k : κ) : ∀ kvs : List (κ × V), (kvs.any fun kv => decide (kv.1 = k)) = (valV kvs k).isSome
  | [] => rfl
  | p :: r => by
    rw [List.any_cons]
    by_cases e : p.1 = k
    · simp only [valV_pos e, decide_eq_true e, Bool.true_or, Option.isSome_some]
    · rw [valV_neg e, decide_eq_false e, Bool.false_or]; exact valV_any k r
theorem valV_map (k j : κ) (y : V) : ∀ kvs : List (κ × V), valV (kvs.map fun kv => if kv.1 = k then (kv.1, y) else kv) j = (valV kvs j).map fun x => if j = k then y else x
  | [] => rfl
  | p :: r => by
    have ih := valV_map k j y r
    rw [List.map_cons]
    by_cases h : p.1 = k
    · rw [if_pos h]
      by_cases e : p.1 = j
      · rw [valV_pos (p := (p.1, y)) e, valV_pos e, Option.map_some, if_pos (e.symm.trans h)]
      · rw [valV_neg (p := (p.1, y)) e, valV_neg e, ih]
    · rw [if_neg h]
      by_cases e : p.1 = j
      · rw [valV_pos (p := p) e, valV_pos e, Option.map_some, if_neg (fun z => h (e.trans z))]
      · rw [valV_neg (p := p) e, valV_neg e, ih]
theorem valV_snoc (k j : κ) (y : V) : ∀ kvs : List (κ × V), valV kvs k = none → valV (kvs ++ [(k, y)]) j = if j = k then some y else valV kvs j
  | [], _ => by
    by_cases e : k = j
    · rw [if_pos e.symm]; exact valV_pos (p := (k, y)) e
    · rw [if_neg (fun z => e z.symm)]; exact valV_neg (p := (k, y)) e
  | p :: r, hn => by
    rw [List.cons_append]
    have hk : ¬ p.1 = k := fun z => by rw [valV_pos z] at hn; cases hn
    rw [valV_neg hk] at hn
    have ih := valV_snoc k j y r hn
    by_cases e : p.1 = j
    · rw [valV_pos e, valV_pos e, if_neg (fun z => hk (e.trans z))]
    · rw [valV_neg e, valV_neg e, ih]
theorem valV_put (kvs : List (κ × V)) (k j : κ) (y : V) : valV (putK kvs k y) j = if j = k then some y else valV kvs j := by
  unfold putK
  by_cases a : (kvs.any fun kv => decide (kv.1 = k)) = true
  · rw [if_pos a, valV_map]
    rw [valV_any] at a
    by_cases e : j = k
    · obtain ⟨x, hx⟩ := Option.isSome_iff_exists.mp a
      rw [if_pos e, e, hx, Option.map_some, if_pos rfl]
    · rw [if_neg e]
      cases valV kvs j with
      | none => rfl
      | some x => rw [Option.map_some, if_neg e]
  · rw [if_neg a]
    refine valV_snoc k j y kvs ?_
    rw [valV_any] at a
    cases q : valV kvs k with
    | none => rfl
    | some x => rw [q] at a; exact (a rfl).elim
theorem length_putK (kvs : List (κ × V)) (k : κ) (v : V) : (putK kvs k v).length ≤ kvs.length + 1 := by
  unfold putK
  split
  · rw [List.length_map]; omega
  · rw [List.length_append, List.length_cons, List.length_nil]; omega
theorem RelO.isSome_eq {o : Option V} {u : Option Value} (r : RelO o u) : o.isSome = u.isSome := by
  cases o with
  | none => cases u with
    | none => rfl
    | some _ => exact (show False from r).elim
  | some _ => cases u with
    | none => exact (show False from r).elim
    | some _ => rfl
theorem KV.val {kvs : List (κ × V)} {vs : List (κ × Value)} (r : KV kvs vs) (k : κ) : RelO (valV kvs k) (valueAt vs k) := by
  unfold KV at r
  induction r with
  | nil => exact True.intro
  | @cons p q ps qs h t ih =>
    obtain ⟨h1, h2⟩ := h
    by_cases e : p.1 = k
    · have e' : q.1 = k := h1.symm.trans e
      have b : valueAt (q :: qs) k = some q.2 := by simp [valueAt, List.find?_cons, e']
      rw [valV_pos e, b]; exact h2
    · have e' : ¬ q.1 = k := fun z => e (h1.trans z)
      have b : valueAt (q :: qs) k = valueAt qs k := by simp [valueAt, List.find?_cons, e']
      rw [valV_neg e, b]; exact ih
theorem KV.any {kvs : List (κ × V)} {vs : List (κ × Value)} (r : KV kvs vs) (k : κ) : (kvs.any fun kv => decide (kv.1 = k)) = vs.any fun kv => decide (kv.1 = k) := by
  unfold KV at r
  induction r with
  | nil => rfl
  | cons h t ih => rw [List.any_cons, List.any_cons, ih, h.1]
theorem KV.repl {kvs : List (κ × V)} {vs : List (κ × Value)} (r : KV kvs vs) (k : κ) {y : V} {u : Value} (ry : RelV y u) :
    KV (kvs.map fun kv => if kv.1 = k then (kv.1, y) else kv) (vs.map fun kv => if kv.1 = k then (kv.1, u) else kv) := by
  unfold KV at r ⊢
  induction r with
  | nil => exact .nil
  | @cons p q ps qs h t ih =>
    rw [List.map_cons, List.map_cons]
    refine .cons ?_ ih
    obtain ⟨h1, h2⟩ := h
    by_cases e : p.1 = k
    · rw [if_pos e, if_pos (h1.symm.trans e)]; exact ⟨h1, ry⟩
    · rw [if_neg e, if_neg (fun z => e (h1.trans z))]; exact ⟨h1, h2⟩
theorem KV.put {kvs : List (κ × V)} {vs : List (κ × Value)} (r : KV kvs vs) (k : κ) {y : V} {u : Value} (ry : RelV y u) : KV (putK kvs k y) (stored vs k u) := by
  unfold putK stored
  rw [r.any k]
  by_cases e : (vs.any fun kv => decide (kv.1 = k)) = true
  · rw [if_pos e, if_pos e]; exact r.repl k ry
  · rw [if_neg e, if_neg e]; exact Paired.snoc r ⟨rfl, ry⟩
theorem KV.length {kvs : List (κ × V)} {vs : List (κ × Value)} (r : KV kvs vs) : kvs.length = vs.length := Paired.length r
end


theorem kV_is {P : Program} {w : World} {k : Key} {u : Value} (r : RelV (kV k) u) : (mixKind P w).is k u = true := by
  cases k with
  | inl i => obtain ⟨t, e⟩ := (show ∃ t, u = Value.int i t from r); subst e; exact mixKind_int P w i t
  | inr x => obtain ⟨t, e⟩ := (show ∃ t, u = Value.str x t from r); subst e; exact mixKind_str P w x t
theorem items_are {P : Program} {w : World} : ∀ {ks : List Key} {us : List Value}, Vals (ks.map kV) us → ItemsAre (mixKind P w) ks us
  | [], _, r => by rw [List.map_nil] at r; cases r; exact .nil
  | k :: ks, _, r => by
    rw [List.map_cons] at r
    cases r with
    | cons h t => exact .cons (kV_is h) (items_are t)

abbrev KT (H : Hp) : List (List Key × V) → List (List Key × Addr × Value) → Prop := Paired fun p q => p.1 = q.1 ∧ H q.2.1 = some (.tup (p.1.map kV)) ∧ RelV p.2 q.2.2
theorem KT.val {H : Hp} {kvs : List (List Key × V)} {xs : List (List Key × Addr × Value)} (r : KT H kvs xs) (k : List Key) : RelO (valV kvs k) ((atKey xs k).map (·.2)) := by
  induction r with
  | nil => exact True.intro
  | @cons p q ps qs h t ih =>
    obtain ⟨h1, _, h2⟩ := h
    by_cases e : p.1 = k
    · have e' : q.1 = k := h1.symm.trans e
      have b : atKey (q :: qs) k = some q.2 := by simp [atKey, List.find?_cons, e']
      rw [valV_pos e, b]; exact h2
    · have e' : ¬ q.1 = k := fun z => e (h1.trans z)
      have b : atKey (q :: qs) k = atKey qs k := by simp [atKey, List.find?_cons, e']
      rw [valV_neg e, b]; exact ih
theorem KT.repl {H : Hp} {kvs : List (List Key × V)} {xs : List (List Key × Addr × Value)} (r : KT H kvs xs) (k : List Key) {y : V} {u : Value} (ry : RelV y u) :
    KT H (kvs.map fun kv => if kv.1 = k then (kv.1, y) else kv) (xs.map (putAt k u)) := by
  induction r with
  | nil => exact .nil
  | @cons p q ps qs h t ih =>
    rw [List.map_cons, List.map_cons]
    refine .cons ?_ ih
    obtain ⟨h1, h2, h3⟩ := h
    unfold putAt
    by_cases e : p.1 = k
    · rw [if_pos e, if_pos (h1.symm.trans e)]; exact ⟨h1, h2, ry⟩
    · rw [if_neg e, if_neg (fun z => e (h1.trans z))]; exact ⟨h1, h2, h3⟩
theorem KT.put {H : Hp} {kvs : List (List Key × V)} {xs : List (List Key × Addr × Value)} (r : KT H kvs xs) (k : List Key) {b : Addr} {y : V} {u : Value} (hb : H b = some (.tup (k.map kV))) (ry : RelV y u) :
    KT H (putK kvs k y) (storedH xs k b u) := by
  have e : (kvs.any fun kv => decide (kv.1 = k)) = (atKey xs k).isSome := by
    rw [valV_any, (r.val k).isSome_eq, Option.isSome_map]
  unfold putK storedH
  rw [e]
  by_cases q : (atKey xs k).isSome = true
  · rw [if_pos q, if_pos q]; exact r.repl k ry
  · rw [if_neg q, if_neg q]; exact Paired.snoc r ⟨rfl, hb, ry⟩
theorem KT.keeps {H H' : Hp} {kvs : List (List Key × V)} {xs : List (List Key × Addr × Value)} (r : KT H kvs xs) (ht : ∀ b ys, H b = some (.tup ys) → H' b = some (.tup ys)) : KT H' kvs xs :=
  Paired.mapP r fun _ _ z => ⟨z.1, ht _ _ z.2.1, z.2.2⟩

section
variable {P : Program} {w : World} {H : Hp} {h : Heap} {a : Addr}
theorem rd_of {u : HO} (ok : HOk P w H h) (e : Rd H a u) : ObjOk P w H h a u := e.ok ok
theorem dk_rd {kvs : List (Key × V)} (ok : HOk P w H h) (e : Rd H a (.dK kvs)) : kvs.length ≤ sizeLine ∧ (a == sysModules) = false ∧ ∃ vs, KV kvs vs ∧ h.DictOf (mixKind P w) a vs :=
  show ObjOk P w H h a (.dK kvs) from rd_of ok e
theorem dk_of {kvs : List (Key × V)} (ok : HOk P w H h) (e : H a = some (.dK kvs)) : kvs.length ≤ sizeLine ∧ (a == sysModules) = false ∧ ∃ vs, KV kvs vs ∧ h.DictOf (mixKind P w) a vs := dk_rd ok (.inl e)
theorem key_of {ks : List Key} (ok : HOk P w H h) (e : H a = some (.tup (ks.map kV))) : (tupleKind (mixKind P w)).is h ks a := by
  obtain ⟨_, its, r, o, h1, h2, n, h3⟩ := (show ObjOk P w H h a (.tup (ks.map kV)) from ok a _ e)
  exact ⟨o, its.toArray, n, h1, h2, h3, by simpa using items_are r⟩
theorem dt_rd {kvs : List (List Key × V)} (ok : HOk P w H h) (e : Rd H a (.dT kvs)) : kvs.length ≤ sizeLine ∧ (a == sysModules) = false ∧
    ∃ xs, KT H kvs xs ∧ h.DictOfH (tupleKind (mixKind P w)) a xs := by
  obtain ⟨z, y, xs, r, o, es, ep, h1, h2, h3, h4, h5⟩ := (show ObjOk P w H h a (.dT kvs) from rd_of ok e)
  refine ⟨z, y, xs, r, o, es, ep, h1, h2, h3, h4, fun x hx => ?_, h5⟩
  have all : ∀ {l : List (List Key × V)} {m : List (List Key × Addr × Value)}, KT H l m → ∀ x ∈ m, (tupleKind (mixKind P w)).is h x.1 x.2.1 := by
    intro l m q
    induction q with
    | nil => intro x hx; exact nomatch hx
    | @cons p q ps qs hq t ih =>
      intro x hx
      rcases List.mem_cons.mp hx with e | hx
      · subst e
        exact key_of ok (by rw [← hq.1]; exact hq.2.1)
      · exact ih x hx
  exact all r x hx
theorem dt_of {kvs : List (List Key × V)} (ok : HOk P w H h) (e : H a = some (.dT kvs)) : kvs.length ≤ sizeLine ∧ (a == sysModules) = false ∧
    ∃ xs, KT H kvs xs ∧ h.DictOfH (tupleKind (mixKind P w)) a xs := dt_rd ok (.inl e)
end

def DGet (H : Hp) (a : Addr) (y : V) (r : Option V) : Prop :=
  (∃ kvs k, Rd H a (.dK kvs) ∧ y = kV k ∧ r = valV kvs k) ∨ ∃ kvs k b, Rd H a (.dT kvs) ∧ y = .ref b ∧ H b = some (.tup (k.map kV)) ∧ r = valV kvs k
def DPut (H : Hp) (a : Addr) (y v : V) (H' : Hp) : Prop :=
  (∃ kvs k, H a = some (.dK kvs) ∧ y = kV k ∧ kvs.length < sizeLine ∧ H' = upd H a (.dK (putK kvs k v))) ∨
  ∃ kvs k b, H a = some (.dT kvs) ∧ y = .ref b ∧ H b = some (.tup (k.map kV)) ∧ kvs.length < sizeLine ∧ H' = upd H a (.dT (putK kvs k v))
theorem DGet.t {H : Hp} {a b : Addr} {kvs : List (List Key × V)} {k : List Key} (e : H a = some (.dT kvs)) (eb : H b = some (.tup (k.map kV))) : DGet H a (.ref b) (valV kvs k) := .inr ⟨kvs, k, b, .inl e, rfl, eb, rfl⟩
theorem DPut.t {H : Hp} {a b : Addr} {kvs : List (List Key × V)} {k : List Key} {v : V} (e : H a = some (.dT kvs)) (eb : H b = some (.tup (k.map kV))) (hl : kvs.length < sizeLine) :
    DPut H a (.ref b) v (upd H a (.dT (putK kvs k v))) := .inr ⟨kvs, k, b, e, rfl, eb, hl, rfl⟩


section
variable {X : Cx} {pins : List (Addr × Obj)} {σ : St} {H : Hp} {s : Shared} {a : Addr} {y v : V} {u r : Value} {o : Option V} {A : Around} {E : Value → Shared → Prop}

theorem Inv.big (I : Inv X pins σ H s) : sysModules < s.heap.objs.size := by
  have h : mainGlobals < s.heap.objs.size := (I.mod.glob.keeps I.bk).lt
  exact Nat.lt_trans (by decide) h

theorem d_getItem {Q : Value → Shared → Prop} (hu : A.units + 1 < cLine) (I : Inv X pins σ H s) (g : DGet H a y (some v)) (ry : RelV y u) (h : ∀ w' s', Inv X pins σ H s' → RelV v w' → Q w' s') :
    wpAny (model X.prog X.w) A (getItem (.ref a) u) Q E s := by
  rcases g with ⟨kvs, k, e, ey, l⟩ | ⟨kvs, k, b, e, ey, eb, l⟩
  · subst ey
    obtain ⟨z, hd, vs, rel, dd⟩ := dk_rd I.hok e
    obtain ⟨w', hw, rw'⟩ := RelO.some_of (v := v) (o := valueAt vs k) (by rw [l]; exact rel.val k)
    exact wpAny_getItem_of (kV_is ry) dd.mapOf hw (h w' _ (I.tok _) rw')
  · subst ey
    cases (show u = Value.ref b from ry)
    obtain ⟨z, hd, xs, rel, dd⟩ := dt_rd I.hok e
    obtain ⟨w', hw, rw'⟩ := RelO.some_of (v := v) (o := (atKey xs k).map (·.2)) (by rw [l]; exact rel.val k)
    obtain ⟨p, hp, hp2⟩ := Option.map_eq_some_iff.mp hw
    refine wpAny_getItem_heap (tupleKind_room_in1 hu) (key_of I.hok eb) dd hp ?_
    rw [hp2]
    exact h w' _ (I.tok _) rw'
theorem d_notIn {Q : Value → Shared → Prop} (hu : A.units + 1 < cLine) (I : Inv X pins σ H s) (g : DGet H a y o) (ry : RelV y u) (h : ∀ s', Inv X pins σ H s' → Q (.bool (!o.isSome)) s') :
    wpAny (model X.prog X.w) A (compareOp .NotIn u (.ref a)) Q E s := by
  rcases g with ⟨kvs, k, e, ey, l⟩ | ⟨kvs, k, b, e, ey, eb, l⟩
  · subst ey
    obtain ⟨z, hd, vs, rel, dd⟩ := dk_rd I.hok e
    refine wpAny_notIn_of (kV_is ry) hd dd.mapOf ?_
    rw [← (rel.val k).isSome_eq, ← l]
    exact h _ (I.tok _)
  · subst ey
    cases (show u = Value.ref b from ry)
    obtain ⟨z, hd, xs, rel, dd⟩ := dt_rd I.hok e
    refine wpAny_notIn_heap (tupleKind_room_in1 hu) (key_of I.hok eb) hd dd ?_
    have q := (rel.val k).isSome_eq
    rw [Option.isSome_map] at q
    rw [← q, ← l]
    exact h _ (I.tok _)
theorem d_write {h' : Heap} {t' : Nat} {ob : HO} (I : Inv X pins σ H s) (mu : Mut (H a)) (hs : Heap.SameBut a s.heap h') (he : ∃ q, h'.get? a = some q) (new : ObjOk X.prog X.w (upd H a ob) h' a ob) :
    Inv X pins σ (upd H a ob) { s with heap := h', toks := t' } :=
  I.write (x := a) (e := a) mu (.inl rfl) (fun b q hb z => (hs.2 b hb).trans z) he new
theorem dk_new {P : Program} {w : World} {H' : Hp} {h' : Heap} {kvs : List (Key × V)} {vs : List (Key × Value)} (z : kvs.length ≤ sizeLine) (hd : (a == sysModules) = false) (rel : KV kvs vs) (dd : h'.DictOf (mixKind P w) a vs) :
    ObjOk P w H' h' a (.dK kvs) := ⟨z, hd, vs, rel, dd⟩
theorem d_setItem {H' : Hp} {Q : Unit → Shared → Prop} (hu : A.units + 1 < cLine) (I : Inv X pins σ H s) (g : DPut H a y v H') (ry : RelV y u) (rv : RelV v r) (h : ∀ s', Inv X pins σ H' s' → Q () s') :
    wpAny (model X.prog X.w) A (setItem (.ref a) u r) Q E s := by
  rcases g with ⟨kvs, k, e, ey, l, eH⟩ | ⟨kvs, k, b, e, ey, eb, l, eH⟩
  · subst ey eH
    obtain ⟨z, hd, vs, rel, dd⟩ := dk_of I.hok e
    have hz : vs.length ≤ sizeLine := by rw [← rel.length]; exact z
    have hl : (putK kvs k v).length ≤ sizeLine := by have := length_putK kvs k v; omega
    refine wpAny_setItem_pairs (hsz := hz) (kV_is ry) dd fun h' dd' hs => h _ ?_
    have he : ∃ q, h'.get? a = some q := let ⟨q, _, _, hq, _⟩ := dd'; ⟨q, hq⟩
    exact d_write I (by rw [e]; exact True.intro) hs he (dk_new hl hd (rel.put k rv) dd')
  · subst ey eH
    cases (show u = Value.ref b from ry)
    obtain ⟨z, hd, xs, rel, dd⟩ := dt_of I.hok e
    have hz : xs.length ≤ sizeLine := by rw [← Paired.length rel]; exact z
    have hl : (putK kvs k v).length ≤ sizeLine := by have := length_putK kvs k v; omega
    refine wpAny_setItem_heap (hsz := hz) (tupleKind_room_in1 hu) (key_of I.hok eb) dd fun h' dd' hs => h _ ?_
    obtain ⟨q, es, ep, hq, h2, h3, h4, _, h5⟩ := dd'
    refine d_write I (by rw [e]; exact True.intro) hs ⟨q, hq⟩ ⟨hl, hd, _, (rel.put k eb rv).keeps fun c ys ec => ?_, q, es, ep, hq, h2, h3, h4, h5⟩
    rw [upd_ne (ne_of ec e (fun z => nomatch z))]
    exact ec
end

section
variable {X : Cx} {pins : List (Addr × Obj)} {σ : St} {H : Hp} {s : Shared} {a : Addr} {kvs : List (Key × V)} {k : Key} {u : Value} {A : Around} {E : Value → Shared → Prop}
end


def NoSl (i : Expr) : Prop := ∀ ov iv, subscripted i false ov iv = operate [ov, iv] (getItem ov iv)
theorem subD_of {prog : Program} {w : World} {A : Around} {E : Value → Shared → Prop} {s : Shared} {env : Env} {value slice : Expr} {pos : Pos} {T id : String} {Q : Value → Shared → Prop}
    (hl : typeLookup (.type T) "__getitem__" = pure (some (.builtin id))) (hs : NoSl slice)
    (h : wpAny (model prog w) A (eval value env) (fun o s₁ => wpAny (model prog w) A (eval slice env) (fun i s₂ => s₂.TypeIs o T ∧ wpAny (model prog w) A (getItem o i) Q E s₂) E s₁) E s) :
    wpAny (model prog w) A (eval (.Subscript value slice pos) env) Q E s := by
  refine Subscript_ (wpAny_mono h (fun o s₁ h₁ => wpAny_mono h₁ (fun i s₂ h₂ => ?_) fun _ _ x => x) fun _ _ x => x)
  obtain ⟨hT, h₂⟩ := h₂
  unfold subscriptTail
  refine wpAny_bind ?_
  rw [getitemInPython_of_ne hT.not_modules]
  refine wpAny_bind (wpAny_specialOf hT hl ?_)
  have fin : wpAny (model prog w) A (subscripted slice false o i) (fun r s₃ => wpAny (model prog w) A (letTemporaryGo value o r >>= fun _ => pure r) Q E s₃) E s₂ := by
    rw [hs o i]
    exact wpAny_operating (wpAny_mono h₂ (fun r s₃ h₃ => wpAny_bind (wpAny_letTemporaryGo (wpAny_pure h₃))) fun _ _ x => x)
  first
    | exact wpAny_pure (wpAny_bind fin)
    | exact wpAny_bind (wpAny_pure (wpAny_bind fin))
    | exact wpAny_bind fin

theorem dict_typeIs {X : Cx} {pins : List (Addr × Obj)} {σ : St} {H : Hp} {s : Shared} {a : Addr} {y : V} {o : Option V} (I : Inv X pins σ H s) (g : DGet H a y o) : s.TypeIs (.ref a) "dict" := by
  rcases g with ⟨kvs, k, e, _, _⟩ | ⟨kvs, k, b, e, _, _, _⟩
  · obtain ⟨_, _, vs, _, dd⟩ := dk_rd I.hok e
    exact dd.typeIs
  · obtain ⟨_, _, xs, _, dd⟩ := dt_rd I.hok e
    exact dd.typeIs
def tDGet (td ty : TE) : TE := fun σ H Q => td σ H fun x H1 => ty σ H1 fun y H2 => ∃ a v, x = .ref a ∧ DGet H2 a y (some v) ∧ Q v H2
def tDNotIn (ty td : TE) : TE := fun σ H Q => ty σ H fun y H1 => td σ H1 fun x H2 => ∃ a o, x = .ref a ∧ DGet H2 a y o ∧ Q (.bl (!o.isSome)) H2
def sDPut (td ty tv : TE) : TS := fun D σ H => tv σ H fun v H1 => td σ H1 fun x H2 => ty σ H2 fun y H3 => ∃ a H4, x = .ref a ∧ DPut H3 a y v H4 ∧ D.nx σ H4
section
variable {X : Cx} {o i e value : Expr} {pos pos' tpos : Pos} {td ty tv : TE}
theorem pe_dget (hu : X.A.units + 1 < cLine) (ho : PE X o td) (hi : PE X i ty) (hs : NoSl i) : PE X (.Subscript o i pos) (tDGet td ty) := by
  intro pins s σ H Q I h
  refine subD_of PySem.F.slot_dict_getitem.lookup hs (thn (ho pins s σ H _ I h) fun u s1 ⟨x, H1, I1, rx, q1⟩ => thn (hi pins s1 σ H1 _ I1 q1) fun iv s2 ⟨y, H2, I2, ry, a, v, ex, g, q2⟩ => ?_)
  subst ex
  obtain rfl : u = Value.ref a := rx
  exact ⟨dict_typeIs I2 g, d_getItem hu I2 g ry fun w' s3 I3 rw' => ⟨v, H2, I3, rw', q2⟩⟩
theorem pc_dnotin (hu : X.A.units + 1 < cLine) (hi : PE X i ty) (ho : PE X o td) : PC X .NotIn i o (tDNotIn ty td) := by
  intro pins s σ H Q I h
  refine thn (hi pins s σ H _ I h) fun iv s1 ⟨y, H1, I1, ry, q1⟩ => thn (ho pins s1 σ H1 _ I1 q1) fun u s2 ⟨x, H2, I2, rx, a, ov, ex, g, q2⟩ => ?_
  subst ex
  obtain rfl : u = Value.ref a := rx
  exact d_notIn hu I2 g ry fun s3 I3 => ⟨.bl (!ov.isSome), H2, I3, rfl, q2⟩
theorem ps_dput (hu : X.A.units + 1 < cLine) (ho : PE X o td) (hi : PE X i ty) (hv : PE X value tv) (hs : swapsWith value (some (.Subscript o i pos')) pos.line X.env = pure false) :
    PS X (.Assign [.Subscript o i pos'] value pos) (sDPut td ty tv) := by
  intro pins s σ H D I h
  refine wpAny_Assign_Subscript (thn (hv pins s σ H _ I h) fun r s1 ⟨v, H1, I1, rv, q1⟩ => thn (ho pins s1 σ H1 _ I1 q1) fun u s2 ⟨x, H2, I2, rx, q2⟩ => thn (hi pins s2 σ H2 _ I2 q2) fun iv s3 ⟨y, H3, I3, ry, a, H4, ex, g, q3⟩ => ?_) hs
  subst ex
  obtain rfl : u = Value.ref a := rx
  exact d_setItem hu I3 g ry rv fun s4 I4 => ⟨σ, H4, I4, q3⟩
end


theorem dt_empty {P : Program} {w : World} {H : Hp} (h : Heap) (hb : sysModules < h.objs.size) : ObjOk P w H (h.push { cls := .type "dict", data := .dict #[] }) h.objs.size (.dT []) :=
  ⟨Nat.zero_le _, beq_eq_false_iff_ne.mpr (Ne.symm (Nat.ne_of_lt hb)), [], .nil, _, #[], 0, Heap.get?_push_size _ rfl, ⟨rfl, rfl, rfl⟩, rfl, rfl, List.nodup_nil⟩
section
variable {X : Cx} {pos : Pos}
end

def tPairs : List (TE × TE) → St → Hp → (List (V × V) → Hp → Prop) → Prop
  | [], _, H, Q => Q [] H
  | (tk, tv) :: r, σ, H, Q => tk σ H fun x H1 => tv σ H1 fun y H2 => tPairs r σ H2 fun ps H3 => Q ((x, y) :: ps) H3
abbrev VV : List (V × V) → List (Value × Value) → Prop := Paired fun p q => RelV p.1 q.1 ∧ RelV p.2 q.2
def PPs (X : Cx) (pos : Pos) (keys : List (Option Expr)) (values : List Expr) (trs : List (TE × TE)) : Prop :=
  ∀ (pins : List (Addr × Obj)) (s : Shared) (σ : St) (H : Hp) (Q : List (V × V) → Hp → Prop), Inv X pins σ H s → tPairs trs σ H Q →
    wpAny (model X.prog X.w) X.A (evalPairs (pairTrees keys values X.env pos)) (fun vs s' => ∃ ps H', Inv X pins σ H' s' ∧ VV ps vs ∧ Q ps H') X.xe s
theorem pps_nil {X : Cx} {pos : Pos} : PPs X pos [] [] [] := fun pins s σ H Q I h => pairTrees_nil_walk ⟨[], H, I, .nil, h⟩
theorem pps_cons {X : Cx} {pos : Pos} {k v : Expr} {ks : List (Option Expr)} {vs : List Expr} {tk tv : TE} {trs : List (TE × TE)} (hk : PE X k tk) (hv : PE X v tv) (hr : PPs X pos ks vs trs) :
    PPs X pos (some k :: ks) (v :: vs) ((tk, tv) :: trs) := fun pins s σ H Q I h =>
  pairTrees_cons_walk (thn (hk pins s σ H _ I h) fun u s1 ⟨x, H1, I1, rx, q1⟩ => thn (hv pins s1 σ H1 _ I1 q1) fun w2 s2 ⟨y, H2, I2, ry, q2⟩ =>
    thn (hr pins s2 σ H2 _ I2 q2) fun ws s3 ⟨ps, H3, I3, rel, q3⟩ => ⟨(x, y) :: ps, H3, I3, .cons ⟨rx, ry⟩ rel, q3⟩)

section
variable {X : Cx} {pins : List (Addr × Obj)} {σ : St} {H : Hp} {s : Shared} {a : Addr} {y d : V} {u r : Value} {o : Option V} {A : Around} {E : Value → Shared → Prop}
end

section
variable {X : Cx} {o e f : Expr} {apos cpos : Pos} {td ty tx : TE}
end

section
variable {X : Cx} {pins : List (Addr × Obj)} {σ : St} {H : Hp} {s : Shared} {a : Addr} {kvs : List (Key × V)} {A : Around} {E : Value → Shared → Prop}
end


section
variable {X : Cx} {pins : List (Addr × Obj)} {σ : St} {H : Hp} {s : Shared} {a : Addr} {y : V} {u : Value} {A : Around} {E : Value → Shared → Prop}
end
end L2

namespace Att
open PySem PySem.W PySem.Calls PyProof.Rows

section
variable {prog : Program} {w : World} {A : Around} {E : Value → Shared → Prop} {s : Shared} {K : Frag}

end
end Att

namespace L2
open PySem PySem.Spec PyProof.Rows

end L2

namespace L2
open PySem PySem.Spec PyProof.Rows

end L2

namespace L2
open PySem PySem.Spec PyProof.Rows

section
variable {P : Program} {w : World} {K : PySem.W.Frag} {mg : Str → Option Value} {base : Heap}
end
section
variable {X : Cx}
end

section
variable {κ : Type} [DecidableEq κ]
theorem valV_not {kvs : List (κ × V)} {k : κ} (h : valV kvs k = none) : ¬ k ∈ kvs.map (·.1) := by
  intro m
  obtain ⟨p, hp, e⟩ := List.mem_map.mp m
  have q : (kvs.any fun kv => decide (kv.1 = k)) = true := List.any_eq_true.mpr ⟨p, hp, decide_eq_true e⟩
  rw [valV_any, h] at q
  exact absurd q (by simp)
end
end L2


set_option Elab.async false
set_option linter.all false
set_option maxRecDepth 100000
set_option maxHeartbeats 4000000
namespace L3
open PySem PySem.Spec PyProof.Rows L2
theorem lt64 {a b : Nat} (h : a + 64 < b) : a + 1 < b := by omega
def tDispT1 (trs : List (TE × TE)) : TE := fun σ H Q => ∀ p, H p = none → tPairs trs σ (upd H p (.dT [])) fun ps H2 => H2 p = some (.dT []) ∧ ∃ (b : Addr) (ks : List Key) (vx : V), ps = [(.ref b, vx)] ∧ H2 b = some (.tup (ks.map kV)) ∧ Q (.ref p) (upd H2 p (.dT (putK [] ks vx)))
theorem pe_dispT1 {X : Cx} {pos : Pos} {k v : Expr} {trs : List (TE × TE)} (hu : X.A.units < cLine) (h : PPs X pos [some k] [v] trs) : PE X (.Dict [some k] [v] pos) (tDispT1 trs) := by
  intro pins s σ H Q I q
  have hn := I.hok.fresh (Nat.le_refl s.heap.objs.size)
  have I1 := I.laid (a := s.heap.objs.size) (o := .dT []) (h' := s.heap.push { cls := .type "dict", data := .dict #[] }) (t' := s.toks) (fun _ _ q => Heap.get?_push_of_some _ q) (Nat.le_refl _) (dt_empty s.heap I.big)
  refine wpAny_Dict_any rfl rfl (by simp) (by show 1 ≤ 15; decide) (thn (h pins _ σ _ _ I1 (q _ hn)) fun ws s2 ⟨ps, H2, I2, rel, e, b, ks, vx, ep, eb, q2⟩ => ?_)
  subst ep
  obtain ⟨w1, rfl, r1, r2⟩ : ∃ w1 : Value × Value, ws = [w1] ∧ RelV (.ref b) w1.1 ∧ RelV vx w1.2 := by
    cases rel with
    | cons r rr =>
      cases rr
      exact ⟨_, rfl, r.1, r.2⟩
  obtain ⟨w1, w2⟩ := w1
  obtain rfl : w1 = Value.ref b := r1
  obtain ⟨z, hd, xs, rel', dd⟩ := dt_of I2.hok e
  have hz : xs.length ≤ sizeLine := by rw [← Paired.length rel']; exact z
  have hl : (putK ([] : List (List Key × V)) ks vx).length ≤ sizeLine := by have := length_putK ([] : List (List Key × V)) ks vx; rw [List.length_nil] at this; rw [sizeLine_eq]; omega
  unfold storeAll
  rw [List.forIn_cons]
  refine wpAny_bind (wpAny_bind (wpAny_dictSet_heap (hsz := hz) (knd := tupleKind (mixKind X.prog X.w)) hu (key_of I2.hok eb) dd fun h' dd' hs => wpAny_pure ?_))
  dsimp only
  rw [List.forIn_nil]
  refine wpAny_pure ⟨.ref s.heap.objs.size, _, ?_, rfl, q2⟩
  obtain ⟨o, es, ep, hq, h2, h3, h4, _, h5⟩ := dd'
  refine d_write I2 (by rw [e]; exact True.intro) hs ⟨o, hq⟩ ⟨hl, hd, _, (rel'.put ks eb r2).keeps fun c ys ec => ?_, o, es, ep, hq, h2, h3, h4, h5⟩
  rw [upd_ne (ne_of ec e (fun z => nomatch z))]
  exact ec
end L3

set_option Elab.async false
set_option linter.all false
set_option maxRecDepth 100000
set_option maxHeartbeats 4000000
namespace Rb
open PySem L2 L3 PyProof.Rows
def top (i : Nat) : Stmt := PySem.Challenge.pw_rodbeads_k15_fillings.main.body.getD i (.Pass ⟨0, 0, 0, 0⟩)
abbrev s_turned : Stmt := top 1
abbrev s_lines_at : Stmt := top 2
abbrev s_hooks : Stmt := top 3
abbrev s_line_hooks : Stmt := top 4
abbrev s_fillings : Stmt := top 6
abbrev s_product_to : Stmt := top 7
abbrev s_ldrawn : Stmt := top 9
abbrev s_lwhole : Stmt := top 10
abbrev s_lrow_by : Stmt := top 13
abbrev s_lcounted : Stmt := top 14
abbrev s_lchoices : Stmt := top 15
abbrev s_law : Stmt := top 16
theorem sc_turned : FnScope ["row", "width"] ["row"] (defScope s_turned) := ⟨rfl, rfl, rfl, by decide +kernel, rfl, by decide +kernel, by decide +kernel⟩
theorem sc_lines_at : FnScope ["row", "place"] ["row", "place"] (defScope s_lines_at) := ⟨rfl, rfl, rfl, by decide +kernel, rfl, by decide +kernel, by decide +kernel⟩
theorem sc_hooks : FnScope ["row", "columns"] ["row"] (defScope s_hooks) := ⟨rfl, rfl, rfl, by decide +kernel, rfl, by decide +kernel, by decide +kernel⟩
theorem sc_line_hooks : FnScope ["row", "columns", "line", "found", "place", "behind", "below"] ["row", "columns", "line"] (defScope s_line_hooks) := ⟨rfl, rfl, rfl, by decide +kernel, rfl, by decide +kernel, by decide +kernel⟩
theorem sc_fillings : FnScope ["row", "divisor", "line", "hook"] ["row"] (defScope s_fillings) := ⟨rfl, rfl, rfl, by decide +kernel, rfl, by decide +kernel, by decide +kernel⟩
theorem sc_product_to : FnScope ["number", "product", "factor"] ["number"] (defScope s_product_to) := ⟨rfl, rfl, rfl, by decide +kernel, rfl, by decide +kernel, by decide +kernel⟩
theorem sc_ldrawn : FnScope ["script", "k", "many", "cell", "mixed"] ["script", "k", "many"] (defScope s_ldrawn) := ⟨rfl, rfl, rfl, by decide +kernel, rfl, by decide +kernel, by decide +kernel⟩
theorem sc_lwhole : FnScope ["found"] ["found"] (defScope s_lwhole) := ⟨rfl, rfl, rfl, by decide +kernel, rfl, by decide +kernel, by decide +kernel⟩
theorem sc_lrow_by : FnScope ["script", "base", "most", "left", "row", "greatest", "bound", "step"] ["script", "base", "most"] (defScope s_lrow_by) := ⟨rfl, rfl, rfl, by decide +kernel, rfl, by decide +kernel, by decide +kernel⟩
theorem sc_lcounted : FnScope ["row", "table", "key", "many", "k", "less"] ["row", "table"] (defScope s_lcounted) := ⟨rfl, rfl, rfl, by decide +kernel, rfl, by decide +kernel, by decide +kernel⟩
theorem sc_lchoices : FnScope ["many", "some", "found", "k"] ["many", "some"] (defScope s_lchoices) := ⟨rfl, rfl, rfl, by decide +kernel, rfl, by decide +kernel, by decide +kernel⟩
theorem sc_law : FnScope ["script", "row", "way", "one", "other", "due", "handed", "found"] ["script"] (defScope s_law) := ⟨rfl, rfl, rfl, by decide +kernel, rfl, by decide +kernel, by decide +kernel⟩
def IsRow (ns : List Int) : Prop := (∀ j : Nat, j < ns.length → 1 ≤ ns.getD j 0) ∧ ∀ j : Nat, j + 1 < ns.length → ns.getD (j + 1) 0 ≤ ns.getD j 0
theorem getD_of {ns : List Int} {j : Nat} (h : j < ns.length) : ns[j]? = some (ns.getD j 0) := by
  rw [List.getD_eq_getElem?_getD, List.getElem?_eq_getElem h]; rfl
theorem at_int {ns : List Int} {i : Int} (h0 : 0 ≤ i) (h : i < (ns.length : Int)) : atI (ns.map V.int) i = some (.int (ns.getD i.toNat 0)) := by
  have hk : i.toNat < ns.length := by omega
  have ek : i = ((i.toNat : Nat) : Int) := by omega
  have q : atI (ns.map V.int) ((i.toNat : Nat) : Int) = some (.int (ns.getD i.toNat 0)) := atI_nat (by rw [List.getElem?_map, getD_of hk]; rfl)
  rw [← ek] at q
  exact q
theorem getD_take {ns : List Int} {i j : Nat} (h : j < i) : (ns.take i).getD j 0 = ns.getD j 0 := by
  rw [List.getD_eq_getElem?_getD, List.getD_eq_getElem?_getD, List.getElem?_take_of_lt h]
theorem isRow_nil : IsRow [] := ⟨fun j h => absurd h (Nat.not_lt_zero j), fun j h => absurd h (Nat.not_lt_zero _)⟩
theorem fall_le {ns : List Int} (h : ∀ j : Nat, j + 1 < ns.length → ns.getD (j + 1) 0 ≤ ns.getD j 0) : ∀ (k i : Nat), i + k < ns.length → ns.getD (i + k) 0 ≤ ns.getD i 0
  | 0, i, _ => Int.le_refl _
  | k + 1, i, hk => by
    have a := fall_le h k i (by omega)
    have b := h (i + k) (by omega)
    have e : i + (k + 1) = i + k + 1 := by omega
    rw [e]; omega
theorem getD_elem {ns : List Int} {j : Nat} (h : j < ns.length) : ns[j] = ns.getD j 0 := by
  rw [List.getD_eq_getElem?_getD, List.getElem?_eq_getElem h]; rfl
theorem fall_pair {ns : List Int} : (∀ j : Nat, j + 1 < ns.length → ns.getD (j + 1) 0 ≤ ns.getD j 0) ↔ ns.Pairwise (fun a b => b ≤ a) := by
  rw [List.pairwise_iff_getElem]
  constructor
  · intro h i j hi hj hij
    rw [getD_elem hi, getD_elem hj]
    have e : j = i + (j - i) := by omega
    rw [e]
    exact fall_le h (j - i) i (by omega)
  · intro h j hj
    have := h j (j + 1) (by omega) hj (by omega)
    rw [getD_elem, getD_elem] at this
    exact this
theorem isRow_iff {ns : List Int} : IsRow ns ↔ (∀ x ∈ ns, 1 ≤ x) ∧ ns.Pairwise (fun a b => b ≤ a) := by
  unfold IsRow
  rw [fall_pair]
  refine and_congr_left fun _ => ⟨fun h x hx => ?_, fun h j hj => ?_⟩
  · obtain ⟨j, hj, e⟩ := List.getElem_of_mem hx
    have := h j hj
    rw [← getD_elem hj, e] at this
    exact this
  · rw [← getD_elem hj]
    exact h _ (List.getElem_mem hj)

theorem sort_one : ∀ {xs ys : List Int}, xs.Perm ys → xs.Pairwise (· ≤ ·) → ys.Pairwise (· ≤ ·) → xs = ys
  | [], ys, p, _, _ => (List.nil_perm.mp p).symm
  | x :: xs, [], p, _, _ => absurd (List.perm_nil.mp p) (by simp)
  | x :: xs, y :: ys, p, h1, h2 => by
    have a1 := List.pairwise_cons.mp h1
    have a2 := List.pairwise_cons.mp h2
    have e : x = y := by
      have m1 : x ∈ y :: ys := p.subset (List.mem_cons_self ..)
      have m2 : y ∈ x :: xs := p.symm.subset (List.mem_cons_self ..)
      rcases List.mem_cons.mp m1 with z | z
      · exact z
      · rcases List.mem_cons.mp m2 with z' | z'
        · exact z'.symm
        · have b1 := a1.1 y z'
          have b2 := a2.1 x z
          omega
    subst e
    rw [sort_one ((List.perm_cons x).mp p) a1.2 a2.2]
theorem getD_app_left {r : List Int} {x : Int} {j : Nat} (h : j < r.length) : (r ++ [x]).getD j 0 = r.getD j 0 := by
  rw [List.getD_eq_getElem?_getD, List.getD_eq_getElem?_getD, List.getElem?_append_left h]
theorem getD_app_last {r : List Int} {x : Int} : (r ++ [x]).getD r.length 0 = x := by
  rw [List.getD_eq_getElem?_getD, List.getElem?_append_right (Nat.le_refl _), Nat.sub_self]; rfl
theorem isRow_snoc {r : List Int} {x : Int} (h : IsRow r) (h1 : 1 ≤ x) (h2 : r = [] ∨ x ≤ r.getD (r.length - 1) 0) : IsRow (r ++ [x]) := by
  have e : (r ++ [x]).length = r.length + 1 := by rw [List.length_append]; rfl
  refine ⟨fun j hj => ?_, fun j hj => ?_⟩
  · rw [e] at hj
    by_cases z : j = r.length
    · rw [z, getD_app_last]; exact h1
    · rw [getD_app_left (by omega)]; exact h.1 j (by omega)
  · rw [e] at hj
    by_cases z : j + 1 = r.length
    · rw [z, getD_app_last, getD_app_left (by omega)]
      rcases h2 with h2 | h2
      · rw [h2] at z; cases z
      · have ez : r.length - 1 = j := by omega
        rw [ez] at h2; exact h2
    · rw [getD_app_left (by omega), getD_app_left (by omega)]; exact h.2 j (by omega)
theorem sum_snoc (r : List Int) (x : Int) : (r ++ [x]).sum = r.sum + x := by
  rw [List.sum_append]; simp
theorem row_len {r : List Int} (h : IsRow r) : (r.length : Int) ≤ r.sum := by
  have h' := (isRow_iff.mp h).1
  clear h
  induction r with
  | nil => exact Int.le_refl _
  | cons x r ih =>
    have a := ih fun y hy => h' y (List.mem_cons_of_mem _ hy)
    have b := h' x (List.mem_cons_self ..)
    rw [List.sum_cons, List.length_cons]
    omega


def linesAt (r : List Int) (j : Int) : Nat := (r.filter fun n => decide (j < n)).length
theorem linesAt_nil (j : Int) : linesAt [] j = 0 := rfl
theorem linesAt_cons (x : Int) (r : List Int) (j : Int) : linesAt (x :: r) j = (if j < x then 1 else 0) + linesAt r j := by
  unfold linesAt
  rw [List.filter_cons]
  by_cases h : j < x
  · rw [if_pos (by simpa using h), if_pos h, List.length_cons]; omega
  · rw [if_neg (by simpa using h), if_neg h]; omega
theorem linesAt_append (a b : List Int) (j : Int) : linesAt (a ++ b) j = linesAt a j + linesAt b j := by
  unfold linesAt
  rw [List.filter_append, List.length_append]
theorem linesAt_all {r : List Int} {j : Int} (h : ∀ x ∈ r, j < x) : linesAt r j = r.length := by
  unfold linesAt
  rw [List.filter_eq_self.mpr fun x hx => by simpa using h x hx]
theorem linesAt_none {r : List Int} {j : Int} (h : ∀ x ∈ r, ¬ j < x) : linesAt r j = 0 := by
  unfold linesAt
  rw [List.filter_eq_nil_iff.mpr fun x hx => by simpa using h x hx]
  rfl
theorem linesAt_le (r : List Int) (j : Int) : linesAt r j ≤ r.length := List.length_filter_le _ _
theorem cnt_gt {r : List Int} (hp : r.Pairwise (fun a b => b ≤ a)) (j : Int) : ∀ k : Nat, k < linesAt r j ↔ k < r.length ∧ j < r.getD k 0 := by
  induction r with
  | nil => intro k; rw [linesAt_nil]; simp
  | cons x r ih =>
    intro k
    obtain ⟨h1, h2⟩ := List.pairwise_cons.mp hp
    rw [linesAt_cons]
    by_cases hx : j < x
    · rw [if_pos hx]
      cases k with
      | zero => simp [hx]; omega
      | succ k =>
        have := ih h2 k
        rw [List.length_cons, List.getD_cons_succ]
        omega
    · rw [if_neg hx, linesAt_none fun y hy => by have := h1 y hy; omega]
      refine ⟨fun z => by omega, fun z => ?_⟩
      exfalso
      cases k with
      | zero => simp at z; omega
      | succ k =>
        rw [List.length_cons, List.getD_cons_succ] at z
        have hm : r.getD k 0 ∈ r := by
          rw [List.getD_eq_getElem?_getD, List.getElem?_eq_getElem (by omega)]
          exact List.getElem_mem _
        have := h1 _ hm
        omega
def turnedM (r : List Int) : List Int := (List.range (r.headD 0).toNat).map fun j => ((linesAt r (j : Nat) : Nat) : Int)
theorem turned_len (r : List Int) : (turnedM r).length = (r.headD 0).toNat := by
  unfold turnedM; rw [List.length_map, List.length_range]
theorem turned_at {r : List Int} {j : Nat} (h : j < (r.headD 0).toNat) : (turnedM r).getD j 0 = (linesAt r j : Int) := by
  unfold turnedM
  rw [List.getD_eq_getElem?_getD, List.getElem?_map, List.getElem?_range h]
  rfl
theorem head_is {r : List Int} (h : r ≠ []) : r.headD 0 = r.getD 0 0 := by
  cases r with
  | nil => exact absurd rfl h
  | cons x r => rfl
theorem hook_two {r : List Int} (hp : r.Pairwise (fun a b => b ≤ a)) {k : Nat} (hk : k < r.length) {j : Int} (hj : j < r.getD k 0) : linesAt r j = k + 1 + linesAt (r.drop (k + 1)) j := by
  have e : r = r.take (k + 1) ++ r.drop (k + 1) := (List.take_append_drop _ _).symm
  have e1 : linesAt (r.take (k + 1)) j = k + 1 := by
    have hl : (r.take (k + 1)).length = k + 1 := by rw [List.length_take]; omega
    rw [linesAt_all fun x hx => ?_, hl]
    obtain ⟨i, hi, ex⟩ := List.getElem_of_mem hx
    rw [hl] at hi
    rw [List.getElem_take] at ex
    rw [List.pairwise_iff_getElem] at hp
    have hkk : r.getD k 0 = r[k] := by rw [List.getD_eq_getElem?_getD, List.getElem?_eq_getElem hk]; rfl
    rw [hkk] at hj
    by_cases z : i = k
    · subst z; omega
    · have := hp i k (by omega) hk (by omega)
      omega
  have := linesAt_append (r.take (k + 1)) (r.drop (k + 1)) j
  rw [← e] at this
  omega

def spDrawn (K : PySem.W.Frag) : Sp := fun vs H Q _ => ∃ (a : Addr) (ns : List Int) (k m : Int), vs = [.ref a, .int k, .int m] ∧ SqL K H a (ns.map V.int) ∧ ns.length ≤ 63 ∧ 0 ≤ k ∧ k ≤ 1000000 ∧ 0 < m ∧ ∀ d : Int, 0 ≤ d → d < m → Q (.int d) H
def spRowBy (K : PySem.W.Frag) : Sp := fun vs H Q _ => ∃ (a : Addr) (ns : List Int) (k m : Int), vs = [.ref a, .int k, .int m] ∧ SqL K H a (ns.map V.int) ∧ ns.length ≤ 63 ∧ 0 ≤ k ∧ k ≤ 1000 ∧ 0 < m ∧ m ≤ 60 ∧
  ∀ (p : Addr) (r : List Int) (H' : Hp), Same H H' → H p = none → IsRow r → r.sum ≤ m → (r.length : Int) ≤ m → H' p = some (.lst (r.map V.int)) → Q (.ref p) H'

def spWhole : Sp := fun vs H Q _ => ∃ i : Int, vs = [.int i] ∧ Q (.bl true) H
theorem kit_int_int {K : PySem.W.Frag} : PySem.W.kitOne K (.type "int") (.type "int") = some true := rfl
theorem kit_int_bool {K : PySem.W.Frag} : PySem.W.kitOne K (.type "int") (.type "bool") = some false := by
  unfold PySem.W.kitOne
  rw [if_neg (by decide)]
  with_unfolding_all rfl

def spLaw (K : PySem.W.Frag) : Sp := fun vs H Q _ => ∃ (a : Addr) (ns : List Int), vs = [.ref a] ∧ SqL K H a (ns.map V.int) ∧ ns.length ≤ 63 ∧ ∀ H', Q (.bl true) H'

def hookLine (r : List Int) (k : Nat) : List Int := (List.range (r.getD k 0).toNat).map fun (j : Nat) => r.getD k 0 - (j : Int) + (linesAt (r.drop (k + 1)) (j : Nat) : Int)
def hooksM (r : List Int) : List (List Int) := (List.range r.length).map (hookLine r)
theorem hooksM_len (r : List Int) : (hooksM r).length = r.length := by unfold hooksM; rw [List.length_map, List.length_range]
theorem hooksM_at {r : List Int} {k : Nat} (h : k < r.length) : (hooksM r).getD k [] = hookLine r k := by
  unfold hooksM
  rw [List.getD_eq_getElem?_getD, List.getElem?_map, List.getElem?_range h]
  rfl
theorem isRow_pair {r : List Int} (h : IsRow r) : r.Pairwise (fun a b => b ≤ a) := (isRow_iff.mp h).2
theorem isRow_pos {r : List Int} (h : IsRow r) : ∀ x ∈ r, 1 ≤ x := (isRow_iff.mp h).1
theorem row_le_head {r : List Int} (h : IsRow r) {k : Nat} (hk : k < r.length) : r.getD k 0 ≤ r.headD 0 := by
  have hne : r ≠ [] := fun z => by rw [z] at hk; cases hk
  rw [head_is hne]
  have := fall_le h.2 k 0 (by omega)
  rw [Nat.zero_add] at this
  exact this

def spLinesAt (K : PySem.W.Frag) : Sp := fun vs H Q _ => ∃ (a : Addr) (r : List Int) (j : Int), vs = [.ref a, .int j] ∧ SqL K H a (r.map V.int) ∧ r.length ≤ 1000 ∧ ∀ H', Same H H' → Q (.int (linesAt r j : Nat)) H'
def spTurned (K : PySem.W.Frag) : Sp := fun vs H Q _ => ∃ (a : Addr) (r : List Int), vs = [.ref a] ∧ SqL K H a (r.map V.int) ∧ r.length ≤ 1000 ∧ 0 ≤ r.headD 0 ∧ r.headD 0 ≤ 1000 ∧
  ∀ (p : Addr) (H' : Hp), Same H H' → H p = none → H' p = some (.lst ((turnedM r).map V.int)) → Q (.ref p) H'
def spLineHooks (K : PySem.W.Frag) : Sp := fun vs H Q _ => ∃ (a c : Addr) (r : List Int) (k : Int), vs = [.ref a, .ref c, .int k] ∧ SqL K H a (r.map V.int) ∧ SqL K H c ((turnedM r).map V.int) ∧ IsRow r ∧ r.length ≤ 1000 ∧ r.headD 0 ≤ 1000 ∧ 0 ≤ k ∧ k < (r.length : Int) ∧
  ∀ (p : Addr) (H' : Hp), Same H H' → H p = none → H' p = some (.lst ((hookLine r k.toNat).map V.int)) → Q (.ref p) H'
def spHooks (K : PySem.W.Frag) : Sp := fun vs H Q _ => ∃ (a : Addr) (r : List Int), vs = [.ref a] ∧ SqL K H a (r.map V.int) ∧ IsRow r ∧ r.length ≤ 1000 ∧ r.headD 0 ≤ 1000 ∧
  ∀ (p : Addr) (ps : List Addr) (H' : Hp), Same H H' → H p = none → LL H H' p ps (hooksM r) → Q (.ref p) H'

theorem row_head {r : List Int} (h : IsRow r) : 0 ≤ r.headD 0 ∧ r.headD 0 ≤ r.sum := by
  have hp := isRow_pos h
  clear h
  cases r with
  | nil => exact ⟨Int.le_refl _, Int.le_refl _⟩
  | cons x t =>
    have h0 : ∀ t : List Int, (∀ y ∈ t, 1 ≤ y) → 0 ≤ t.sum := fun t => by
      induction t with
      | nil => intro _; exact Int.le_refl _
      | cons y t ih =>
        intro hy
        have a := ih fun z hz => hy z (List.mem_cons_of_mem _ hz)
        have b := hy y (List.mem_cons_self ..)
        rw [List.sum_cons]; omega
    have a := h0 t fun z hz => hp z (List.mem_cons_of_mem _ hz)
    have b := hp x (List.mem_cons_self ..)
    rw [List.sum_cons]
    show 0 ≤ x ∧ x ≤ x + t.sum
    omega

theorem comp_gt {K : PySem.W.Frag} {a D : Addr} {r : List Int} {j : Int} {Q : VK} {H : Hp} (hS : SqL K H a (r.map V.int)) (hlen : r.length ≤ 1000) (hD : H D = none)
    (q : ∀ H', Same H H' → H' D = some (.lst ((r.filter fun n => decide (j < n)).map V.int)) → Q (.ref D) H') :
    CompW (Itl K a) (gName 0) (tTest (tOp (rI0 fun i j => .bl (decide (j < i))) (tVar 0) (tVar 1))) (tVar 0) Q D [none, some (.int j)] H := by
  have hl : (r.map V.int).length = r.length := List.length_map _
  refine comp_list (K := K) (a := a) (xs := r.map V.int) (fun i ys σ H2 => ∃ u : Option V, σ = [u, some (.int j)] ∧ Same H H2 ∧ H2 D = some (.lst ys) ∧ ys = ((r.take i).filter fun n => decide (j < n)).map V.int)
    ⟨none, rfl, same_new hD _, upd_same, rfl⟩ (fun i ys σ H2 _ ⟨_, _, s2, _⟩ => s2.seq hS) ?_ ?_
  · rintro i x ys σ H2 hi ⟨u, rfl, s2, hD2, rfl⟩
    have hil : i < (r.map V.int).length := (List.getElem?_eq_some_iff.mp hi).1
    rw [hl] at hil
    obtain rfl : x = V.int (r.getD i 0) := by
      rw [List.getElem?_map, getD_of hil] at hi
      exact (Option.some.inj hi).symm
    have step := take_succ_filter (fun n => decide (j < n)) r i (r.getD i 0) (getD_of hil)
    refine ⟨_, rfl, _, rfl, _, _, rfl, rfl, _, rfl, ?_⟩
    refine ite2 (fun c => ?_) (fun c => ?_)
    · refine ⟨_, rfl, hD2, ?_, _, rfl, same_upd s2 hD, upd_same, ?_⟩
      · have z := List.length_filter_le (fun n => decide (j < n)) (r.take i)
        rw [List.length_map]
        rw [List.length_take] at z
        exact small1000 (by omega)
      · rw [step, if_pos c, List.map_append]
        rfl
    · refine ⟨_, rfl, s2, hD2, ?_⟩
      rw [step, if_neg c, List.append_nil]
  · rintro ys σ H2 ⟨u, rfl, s2, hD2, rfl⟩
    refine q H2 s2 ?_
    rw [hl, List.take_length] at hD2
    exact hD2


theorem getD_snoc_left {ps : List Addr} {p : Addr} {j : Nat} (h : j < ps.length) : (ps ++ [p]).getD j 0 = ps.getD j 0 := by
  rw [List.getD_eq_getElem?_getD, List.getD_eq_getElem?_getD, List.getElem?_append_left h]
theorem getD_snoc_last {ps : List Addr} {p : Addr} : (ps ++ [p]).getD ps.length 0 = p := by
  rw [List.getD_eq_getElem?_getD, List.getElem?_append_right (Nat.le_refl _), Nat.sub_self]; rfl
theorem getD_memA {ps : List Addr} {j : Nat} (h : j < ps.length) : ps.getD j 0 ∈ ps := by
  rw [List.getD_eq_getElem?_getD, List.getElem?_eq_getElem h]
  exact List.getElem_mem h
theorem memA_get {ps : List Addr} {x : Addr} (h : x ∈ ps) : ∃ j : Nat, j < ps.length ∧ ps.getD j 0 = x := by
  obtain ⟨j, hj, e⟩ := List.getElem_of_mem h
  exact ⟨j, hj, by rw [List.getD_eq_getElem?_getD, List.getElem?_eq_getElem hj]; exact e⟩
structure Made (H H2 : Hp) (D : Addr) (ps : List Addr) (i : Nat) (f : Nat → List Int) : Prop where
  len : ps.length = i
  fresh : ∀ x ∈ ps, H x = none
  nd : ps.Nodup
  np : D ∉ ps
  each : ∀ k : Nat, k < i → H2 (ps.getD k 0) = some (.lst ((f k).map V.int))
theorem Made.zero {H H2 : Hp} {D : Addr} {f : Nat → List Int} : Made H H2 D [] 0 f := ⟨rfl, fun _ h => absurd h (by simp), List.nodup_nil, by simp, fun k hk => absurd hk (Nat.not_lt_zero k)⟩
theorem Made.snoc {H H2 H3 : Hp} {D p : Addr} {ps : List Addr} {i : Nat} {f : Nat → List Int} {o : HO} (M : Made H H2 D ps i f) (s2 : Same H H2) (s3 : Same H2 H3) (hp : H2 p = none) (hp3 : H3 p = some (.lst ((f i).map V.int))) (hD : ∃ o, H2 D = some o) : Made H (upd H3 D o) D (ps ++ [p]) (i + 1) f := by
  obtain ⟨oD, hD⟩ := hD
  have hpD : p ≠ D := (ne_of_none hD hp).symm
  have hpp : p ∉ ps := fun z => by
    obtain ⟨j, hj, e⟩ := memA_get z
    have := M.each j (by rw [← M.len]; exact hj)
    rw [e, hp] at this
    cases this
  refine ⟨by rw [List.length_append, M.len]; rfl, fun x hx => ?_, ?_, fun z => ?_, fun k hk => ?_⟩
  · rcases List.mem_append.mp hx with z | z
    · exact M.fresh x z
    · have e : x = p := by simpa using z
      rw [e]; exact s2.free hp
  · rw [List.nodup_append]
    refine ⟨M.nd, by simp, fun x hx y hy => ?_⟩
    have e : y = p := by simpa using hy
    rw [e]
    rintro rfl
    exact hpp hx
  · rcases List.mem_append.mp z with z | z
    · exact M.np z
    · exact hpD (by simpa using z : D = p).symm
  · by_cases z : k = i
    · subst z
      have e : (ps ++ [p]).getD k 0 = p := by rw [← M.len]; exact getD_snoc_last
      rw [e, upd_ne hpD]
      exact hp3
    · have hk' : k < ps.length := by rw [M.len]; omega
      rw [getD_snoc_left hk', upd_ne (fun z' => M.np (by rw [← z']; exact getD_memA hk'))]
      exact s3 _ _ (M.each k (by omega))

def gapsM (r : List Int) (m : Nat) : List Int := List.replicate (m - r.length) 0 ++ r.reverse
def beadsM (r : List Int) (m : Nat) : List Int := (List.range m).map fun (i : Nat) => (i : Int) + (gapsM r m).getD i 0
theorem gaps_len {r : List Int} {m : Nat} (h : r.length ≤ m) : (gapsM r m).length = m := by
  unfold gapsM; rw [List.length_append, List.length_replicate, List.length_reverse]; omega
theorem beads_len (r : List Int) (m : Nat) : (beadsM r m).length = m := by unfold beadsM; rw [List.length_map, List.length_range]
theorem beads_at {r : List Int} {m i : Nat} (h : i < m) : (beadsM r m).getD i 0 = (i : Int) + (gapsM r m).getD i 0 := by
  unfold beadsM
  rw [List.getD_eq_getElem?_getD, List.getElem?_map, List.getElem?_range h]
  rfl
theorem gaps_up {r : List Int} {m : Nat} (h0 : ∀ x ∈ r, 0 ≤ x) (hp : r.Pairwise (fun a b => b ≤ a)) : (gapsM r m).Pairwise (· ≤ ·) := by
  unfold gapsM
  rw [List.pairwise_append]
  refine ⟨?_, by rw [List.pairwise_reverse]; exact hp, fun a ha b hb => ?_⟩
  · rw [List.pairwise_iff_getElem]
    intro i j hi hj _
    rw [List.getElem_replicate, List.getElem_replicate]
    exact Int.le_refl _
  · rw [(List.mem_replicate.mp ha).2]
    exact h0 b (List.mem_reverse.mp hb)
def gAt (G : List Int) (i : Nat) : Int := if i = 0 then 0 else G.getD (i - 1) 0
def Rise (ns : List Int) : Prop := ∀ j : Nat, j < ns.length → (if j = 0 then (-1 : Int) else ns.getD (j - 1) 0) < ns.getD j 0
theorem rise_pos {ns : List Int} (h : Rise ns) : ∀ j : Nat, j < ns.length → 0 ≤ ns.getD j 0
  | 0, hj => by have := h 0 hj; rw [if_pos rfl] at this; omega
  | j + 1, hj => by
    have a := rise_pos h j (by omega)
    have b := h (j + 1) hj
    rw [if_neg (by omega)] at b
    have e : j + 1 - 1 = j := rfl
    rw [e] at b
    omega
theorem beads_rise {r : List Int} {m : Nat} (h0 : ∀ x ∈ r, 0 ≤ x) (hp : r.Pairwise (fun a b => b ≤ a)) (hm : r.length ≤ m) : Rise (beadsM r m) := fun j hj => by
  rw [beads_len] at hj
  have hl := gaps_len hm
  have hup := gaps_up (m := m) h0 hp
  rw [List.pairwise_iff_getElem] at hup
  have ge : ∀ k (hk : k < (gapsM r m).length), (gapsM r m).getD k 0 = (gapsM r m)[k] := fun k hk => by rw [List.getD_eq_getElem?_getD, List.getElem?_eq_getElem hk]; rfl
  rw [beads_at hj]
  by_cases z : j = 0
  · subst z
    rw [if_pos rfl]
    have hmem : (gapsM r m).getD 0 0 ∈ gapsM r m := by rw [ge 0 (by omega)]; exact List.getElem_mem _
    have : 0 ≤ (gapsM r m).getD 0 0 := by
      have hm2 := hmem
      unfold gapsM at hm2
      rcases List.mem_append.mp hm2 with y | y
      · have := (List.mem_replicate.mp y).2
        unfold gapsM; omega
      · exact h0 _ (List.mem_reverse.mp y)
    omega
  · rw [if_neg z, beads_at (by omega), ge j (by omega), ge (j - 1) (by omega)]
    have := hup (j - 1) j (by omega) (by omega) (by omega)
    omega

def gapsOf (ns : List Int) : List Int := (List.range ns.length).map fun (k : Nat) => ns.getD k 0 - (k : Int)
def rowOfM (ns : List Int) : List Int := (gapsOf ns).reverse.filter fun g => decide (0 < g)
theorem gapsOf_len (ns : List Int) : (gapsOf ns).length = ns.length := by unfold gapsOf; rw [List.length_map, List.length_range]
theorem gapsOf_at {ns : List Int} {i : Nat} (h : i < ns.length) : (gapsOf ns).getD i 0 = ns.getD i 0 - (i : Int) := by
  unfold gapsOf
  rw [List.getD_eq_getElem?_getD, List.getElem?_map, List.getElem?_range h]
  rfl
theorem gapsOf_beads {r : List Int} {m : Nat} (hm : r.length ≤ m) : gapsOf (beadsM r m) = gapsM r m := by
  refine List.ext_getElem (by rw [gapsOf_len, beads_len, gaps_len hm]) fun i a b => ?_
  have hi : i < m := by rw [gapsOf_len, beads_len] at a; exact a
  rw [getD_elem a, getD_elem b, gapsOf_at (by rw [beads_len]; exact hi), beads_at hi]
  omega
theorem rowOf_beads {r : List Int} {m : Nat} (h1 : ∀ x ∈ r, 1 ≤ x) (hm : r.length ≤ m) : rowOfM (beadsM r m) = r := by
  unfold rowOfM
  rw [gapsOf_beads hm]
  unfold gapsM
  rw [List.reverse_append, List.reverse_reverse, List.filter_append]
  have e1 : r.filter (fun g => decide (0 < g)) = r := List.filter_eq_self.mpr fun x hx => decide_eq_true (by have := h1 x hx; omega)
  have e2 : (List.replicate (m - r.length) (0 : Int)).reverse.filter (fun g => decide (0 < g)) = [] := List.filter_eq_nil_iff.mpr fun x hx => by
    have := (List.mem_replicate.mp (List.mem_reverse.mp hx)).2
    rw [this]; decide
  rw [e1, e2, List.append_nil]
theorem getA_of {ps : List Addr} {j : Nat} (h : j < ps.length) : ps[j]? = some (ps.getD j 0) := by
  rw [List.getD_eq_getElem?_getD, List.getElem?_eq_getElem h]; rfl
def shareM (r : List Int) (t : Int) : Int := ((r.length : Int) + t - 1) / t
theorem share_mul (r : List Int) {t : Int} (h : 1 ≤ t) : (r.length : Int) ≤ shareM r t * t ∧ shareM r t * t ≤ (r.length : Int) + t - 1 := by
  unfold shareM
  have a := Int.emod_add_mul_ediv ((r.length : Int) + t - 1) t
  have b := Int.emod_nonneg ((r.length : Int) + t - 1) (b := t) (by omega)
  have c := Int.emod_lt_of_pos ((r.length : Int) + t - 1) (b := t) (by omega)
  rw [Int.mul_comm] at a
  omega
def hOn (ps : List Int) (t k : Int) : List Int := (ps.filter fun p => decide (p % t = k)).map fun p => p / t
def partedM (r : List Int) (t : Int) : List (List Int) := (List.range t.toNat).map fun (k : Nat) => hOn (beadsM r (shareM r t * t).toNat) t (0 + (k : Int))
theorem parted_len (r : List Int) (t : Int) : (partedM r t).length = t.toNat := by unfold partedM; rw [List.length_map, List.length_range]
def chargesM (r : List Int) (t : Int) : List Int := (partedM r t).map fun h => (h.length : Int) - shareM r t
theorem charges_len (r : List Int) (t : Int) : (chargesM r t).length = t.toNat := by unfold chargesM; rw [List.length_map, parted_len]
def maxI : List Int → Int
  | [] => 0
  | [a] => a
  | a :: b :: r => max a (maxI (b :: r))
def lacksM (ns : List Int) (rows : List (List Int)) : List Int := (List.range rows.length).map fun (k : Nat) => ((rows.getD k []).length : Int) - ns.getD k 0
def leastM (ns : List Int) (rows : List (List Int)) : Int := maxI (lacksM ns rows)
def placesTo (ns : List Int) (rows : List (List Int)) (l : Int) (i : Nat) : List Int := ((List.range i).map fun (k : Nat) => (beadsM (rows.getD k []) (l + ns.getD k 0).toNat).map fun h => h * (rows.length : Int) + (k : Int)).flatten
def insI (x : Int) : List Int → List Int
  | [] => [x]
  | y :: r => if x ≤ y then x :: y :: r else y :: insI x r
def sortI : List Int → List Int
  | [] => []
  | x :: r => insI x (sortI r)
def placesM (ns : List Int) (rows : List (List Int)) : List Int := placesTo ns rows (leastM ns rows) rows.length
def laidM (ns : List Int) (rows : List (List Int)) : List Int := rowOfM (sortI (placesM ns rows))
def empties (n : Nat) : List (List Int) := List.replicate n []
def coreOfM (ns : List Int) : List Int := laidM ns (empties ns.length)
def coreM (r : List Int) (t : Int) : List Int := coreOfM (chargesM r t)
abbrev Up (l : List Int) : Prop := l.Pairwise (· < ·)
theorem up_nodup {l : List Int} (h : Up l) : l.Nodup := List.nodup_iff_pairwise_ne.mpr (h.imp fun h => Int.ne_of_lt h)
theorem up_le {l : List Int} (h : Up l) : l.Pairwise (· ≤ ·) := h.imp fun h => Int.le_of_lt h
theorem up_eq {a b : List Int} (ha : Up a) (hb : Up b) (h : ∀ x, x ∈ a ↔ x ∈ b) : a = b :=
  sort_one ((List.perm_ext_iff_of_nodup (up_nodup ha) (up_nodup hb)).mpr h) (up_le ha) (up_le hb)
theorem up_rise {l : List Int} (h : Up l) (h0 : ∀ x ∈ l, 0 ≤ x) : Rise l := fun j hj => by
  by_cases z : j = 0
  · subst z
    rw [if_pos rfl]
    have := h0 (l.getD 0 0) (by rw [← getD_elem hj]; exact List.getElem_mem _)
    omega
  · rw [if_neg z]
    have := List.pairwise_iff_getElem.mp h (j - 1) j (by omega) hj (by omega)
    rw [getD_elem, getD_elem] at this
    exact this
theorem rise_lt {l : List Int} (h : Rise l) {i : Nat} : ∀ d : Nat, i + d + 1 < l.length → l.getD i 0 < l.getD (i + d + 1) 0
  | 0, hd => by
    have := h (i + 1) hd
    rw [if_neg (by omega)] at this
    exact this
  | d + 1, hd => by
    have a := rise_lt h (i := i) d (by omega)
    have b := h (i + (d + 1) + 1) hd
    rw [if_neg (by omega)] at b
    have e : i + (d + 1) + 1 - 1 = i + d + 1 := by omega
    rw [e] at b
    omega
theorem rise_up {l : List Int} (h : Rise l) : Up l := List.pairwise_iff_getElem.mpr fun i j hi hj hij => by
  rw [getD_elem, getD_elem]
  have := rise_lt h (i := i) (j - i - 1) (by omega)
  have e : i + (j - i - 1) + 1 = j := by omega
  rw [e] at this
  exact this
def rngI (d : Nat) : List Int := (List.range d).map fun (k : Nat) => (k : Int)
theorem rng_len (d : Nat) : (rngI d).length = d := by unfold rngI; rw [List.length_map, List.length_range]
theorem mem_rng {d : Nat} {x : Int} : x ∈ rngI d ↔ 0 ≤ x ∧ x < (d : Int) := by
  unfold rngI
  rw [List.mem_map]
  constructor
  · rintro ⟨k, hk, rfl⟩
    have := List.mem_range.mp hk
    omega
  · rintro ⟨a, b⟩
    exact ⟨x.toNat, List.mem_range.mpr (by omega), by omega⟩
theorem rng_up (d : Nat) : Up (rngI d) := by
  unfold rngI
  rw [Up, List.pairwise_map]
  exact List.pairwise_lt_range.imp fun h => by omega
theorem rng_at {d i : Nat} (h : i < d) : (rngI d).getD i 0 = (i : Int) := by
  unfold rngI
  rw [List.getD_eq_getElem?_getD, List.getElem?_map, List.getElem?_range h]
  rfl
def shiftI (d : Nat) (l : List Int) : List Int := rngI d ++ l.map fun x => x + (d : Int)
theorem shift_len (d : Nat) (l : List Int) : (shiftI d l).length = d + l.length := by unfold shiftI; rw [List.length_append, List.length_map, rng_len]
theorem shift_lo {d i : Nat} {l : List Int} (h : i < d) : (shiftI d l).getD i 0 = (i : Int) := by
  unfold shiftI
  rw [List.getD_eq_getElem?_getD, List.getElem?_append_left (by rw [rng_len]; exact h), ← List.getD_eq_getElem?_getD, rng_at h]
theorem shift_hi {d i : Nat} {l : List Int} (h : d ≤ i) (h2 : i < d + l.length) : (shiftI d l).getD i 0 = l.getD (i - d) 0 + (d : Int) := by
  unfold shiftI
  rw [List.getD_eq_getElem?_getD, List.getElem?_append_right (by rw [rng_len]; exact h), rng_len, List.getElem?_map, getD_of (show i - d < l.length by omega)]
  rfl
theorem rep_at {n i : Nat} : (List.replicate n (0 : Int)).getD i 0 = 0 := by
  rw [List.getD_eq_getElem?_getD, List.getElem?_replicate]
  split <;> rfl
theorem getD_appL {a b : List Int} {i : Nat} (h : i < a.length) : (a ++ b).getD i 0 = a.getD i 0 := by
  rw [List.getD_eq_getElem?_getD, List.getElem?_append_left h, ← List.getD_eq_getElem?_getD]
theorem getD_appR {a b : List Int} {i : Nat} (h : a.length ≤ i) : (a ++ b).getD i 0 = b.getD (i - a.length) 0 := by
  rw [List.getD_eq_getElem?_getD, List.getElem?_append_right h, ← List.getD_eq_getElem?_getD]
def rodP (t s n : Int) (k : Nat) : List Int := (List.range (s + n).toNat).map fun (h : Nat) => (h : Int) * t + (k : Int)
theorem rod_len (t s n : Int) (k : Nat) : (rodP t s n k).length = (s + n).toNat := by unfold rodP; rw [List.length_map, List.length_range]
theorem mem_rod {t s n x : Int} {k : Nat} : x ∈ rodP t s n k ↔ ∃ h : Nat, (h : Int) < s + n ∧ x = (h : Int) * t + (k : Int) := by
  unfold rodP
  rw [List.mem_map]
  constructor
  · rintro ⟨h, hh, rfl⟩
    have := List.mem_range.mp hh
    exact ⟨h, by omega, rfl⟩
  · rintro ⟨h, hh, rfl⟩
    exact ⟨h, List.mem_range.mpr (by omega), rfl⟩
theorem rod_up {t s n : Int} {k : Nat} (ht : 1 ≤ t) : Up (rodP t s n k) := by
  unfold rodP
  rw [Up, List.pairwise_map]
  refine List.pairwise_lt_range.imp fun {a b} h => ?_
  have := Int.mul_lt_mul_of_pos_right (show (a : Int) < (b : Int) by omega) (show 0 < t by omega)
  omega
theorem hk_mod {t h k : Int} (h0 : 0 ≤ k) (h1 : k < t) : (h * t + k) % t = k ∧ (h * t + k) / t = h := by
  have ht : 0 < t := by omega
  constructor
  · rw [Int.add_comm, Int.add_mul_emod_self_right]
    exact Int.emod_eq_of_lt h0 h1
  · rw [Int.add_comm, Int.add_mul_ediv_right _ _ (by omega), Int.ediv_eq_zero_of_lt h0 h1, Int.zero_add]
theorem rng_rod {t e : Int} (ht : 1 ≤ t) (he : 0 ≤ e) {k : Nat} (hk : (k : Int) < t) : (rngI (e * t).toNat).filter (fun x => decide (x % t = 0 + (k : Int))) = rodP t e 0 k := by
  refine up_eq ((rng_up _).filter _) (rod_up ht) fun x => ?_
  have hd := Int.mul_nonneg he (show 0 ≤ t by omega)
  rw [List.mem_filter, mem_rng, mem_rod]
  constructor
  · rintro ⟨⟨a, b⟩, c⟩
    have c := of_decide_eq_true c
    have f := Int.emod_add_mul_ediv x t
    have g : 0 ≤ x / t := Int.ediv_nonneg a (by omega)
    have g2 : x / t < e := by
      refine Int.lt_of_mul_lt_mul_right (a := t) ?_ (by omega)
      have := Int.mul_comm t (x / t)
      omega
    refine ⟨(x / t).toNat, by omega, ?_⟩
    have e1 : (((x / t).toNat : Nat) : Int) = x / t := by omega
    rw [e1, Int.mul_comm]
    omega
  · rintro ⟨h, hh, rfl⟩
    have a := Int.mul_le_mul_of_nonneg_right (show (h : Int) + 1 ≤ e by omega) (show 0 ≤ t by omega)
    have b : ((h : Int) + 1) * t = (h : Int) * t + t := by grind
    have c := Int.mul_nonneg (show (0 : Int) ≤ (h : Int) by omega) (show 0 ≤ t by omega)
    exact ⟨⟨by omega, by omega⟩, decide_eq_true (by rw [(hk_mod (t := t) (h := h) (k := (k : Int)) (by omega) (by omega)).1]; omega)⟩
theorem gapsOf_up {l : List Int} (h : Rise l) : (∀ x ∈ gapsOf l, 0 ≤ x) ∧ (gapsOf l).Pairwise (· ≤ ·) := by
  have key : ∀ j : Nat, j < l.length → 0 ≤ l.getD j 0 - (j : Int) := fun j => by
    induction j with
    | zero => intro hj; have := h 0 hj; rw [if_pos rfl] at this; omega
    | succ j ih =>
      intro hj
      have a := ih (by omega)
      have b := h (j + 1) hj
      rw [if_neg (by omega)] at b
      have e : j + 1 - 1 = j := rfl
      rw [e] at b
      omega
  have step : ∀ i d : Nat, i + d < l.length → l.getD i 0 - (i : Int) ≤ l.getD (i + d) 0 - ((i + d : Nat) : Int) := fun i d => by
    induction d with
    | zero => intro _; exact Int.le_refl _
    | succ d ih =>
      intro hd
      have a := ih (by omega)
      have b := h (i + (d + 1)) hd
      rw [if_neg (by omega)] at b
      have e : i + (d + 1) - 1 = i + d := by omega
      rw [e] at b
      omega
  refine ⟨fun x hx => ?_, List.pairwise_iff_getElem.mpr fun i j hi hj hij => ?_⟩
  · obtain ⟨i, hi, e⟩ := List.getElem_of_mem hx
    have hi' := hi
    rw [gapsOf_len] at hi'
    rw [← e, getD_elem hi, gapsOf_at hi']
    exact key i hi'
  · have hi' := hi
    have hj' := hj
    rw [gapsOf_len] at hi' hj'
    rw [getD_elem hi, getD_elem hj, gapsOf_at hi', gapsOf_at hj']
    have := step i (j - i) (by omega)
    have e : i + (j - i) = j := by omega
    rw [e] at this
    exact this
theorem gapsM_more {r : List Int} {m n : Nat} (h1 : r.length ≤ m) (h2 : m ≤ n) : gapsM r n = List.replicate (n - m) 0 ++ gapsM r m := by
  unfold gapsM
  rw [← List.append_assoc, List.replicate_append_replicate]
  congr 2
  omega
theorem beads_shift {r : List Int} {m n : Nat} (h1 : r.length ≤ m) (h2 : m ≤ n) : beadsM r n = shiftI (n - m) (beadsM r m) := by
  refine List.ext_getElem (by rw [beads_len, shift_len, beads_len]; omega) fun i a b => ?_
  have hi : i < n := by rw [beads_len] at a; exact a
  rw [getD_elem a, getD_elem b, beads_at hi, gapsM_more h1 h2]
  by_cases z : i < n - m
  · rw [shift_lo z, getD_appL (by rw [List.length_replicate]; exact z), rep_at]
    omega
  · rw [shift_hi (by omega) (by rw [beads_len]; omega), getD_appR (by rw [List.length_replicate]; omega), List.length_replicate, beads_at (by omega)]
    omega

theorem perm_sum {a b : List Int} (h : a.Perm b) : a.sum = b.sum := by
  induction h with
  | nil => rfl
  | cons x _ ih => rw [List.sum_cons, List.sum_cons, ih]
  | swap x y l => simp only [List.sum_cons]; omega
  | trans _ _ ih1 ih2 => rw [ih1, ih2]
theorem gaps_snoc (l : List Int) (x : Int) : gapsOf (l ++ [x]) = gapsOf l ++ [x - (l.length : Int)] := by
  refine List.ext_getElem (by rw [gapsOf_len, List.length_append, List.length_append, gapsOf_len]; rfl) fun i a b => ?_
  have hi : i < l.length + 1 := by rw [gapsOf_len, List.length_append] at a; exact a
  rw [getD_elem a, getD_elem b, gapsOf_at (by rw [List.length_append]; exact hi)]
  by_cases z : i < l.length
  · rw [getD_appL z, getD_appL (by rw [gapsOf_len]; exact z), gapsOf_at z]
  · obtain rfl : i = l.length := by omega
    rw [getD_appR (Nat.le_refl _), getD_appR (by rw [gapsOf_len]; exact Nat.le_refl _), gapsOf_len, Nat.sub_self]
    rfl
theorem gaps_sum_rev : ∀ l : List Int, 2 * (gapsOf l.reverse).sum = 2 * l.reverse.sum - (l.length : Int) * ((l.length : Int) - 1)
  | [] => rfl
  | x :: l => by
    have ih := gaps_sum_rev l
    rw [List.reverse_cons, gaps_snoc, List.sum_append, List.sum_append, List.length_reverse, List.length_cons]
    have e1 : [x - (l.length : Int)].sum = x - (l.length : Int) := by simp
    have e2 : [x].sum = x := by simp
    rw [e1, e2]
    have e3 : ((l.length + 1 : Nat) : Int) * (((l.length + 1 : Nat) : Int) - 1) = (l.length : Int) * ((l.length : Int) - 1) + 2 * (l.length : Int) := by grind
    rw [e3]
    omega
theorem gaps_sum (l : List Int) : 2 * (gapsOf l).sum = 2 * l.sum - (l.length : Int) * ((l.length : Int) - 1) := by
  have := gaps_sum_rev l.reverse
  rw [List.reverse_reverse, List.length_reverse] at this
  exact this
theorem filter_sum : ∀ {g : List Int}, (∀ x ∈ g, 0 ≤ x) → (g.filter fun x => decide (0 < x)).sum = g.sum
  | [], _ => rfl
  | x :: g, h => by
    have ih := filter_sum (g := g) fun y hy => h y (List.mem_cons_of_mem _ hy)
    have hx := h x (List.mem_cons_self ..)
    rw [List.filter_cons]
    by_cases z : 0 < x
    · rw [if_pos (decide_eq_true z), List.sum_cons, List.sum_cons, ih]
    · rw [if_neg (by rw [decide_eq_false z]; decide), ih, List.sum_cons]
      omega
theorem rowOf_sum {l : List Int} (h : Rise l) : 2 * (rowOfM l).sum = 2 * l.sum - (l.length : Int) * ((l.length : Int) - 1) := by
  rw [← gaps_sum]
  unfold rowOfM
  have h0 := (gapsOf_up h).1
  rw [filter_sum fun x hx => h0 x (List.mem_reverse.mp hx), perm_sum (List.reverse_perm _)]
theorem sum_map_add {α : Type} (l : List α) (f g : α → Int) : (l.map fun x => f x + g x).sum = (l.map f).sum + (l.map g).sum := by
  induction l with
  | nil => rfl
  | cons a l ih => simp only [List.map_cons, List.sum_cons]; omega
theorem hOn_length (l : List Int) (t k : Int) : (hOn l t k).length = (l.filter fun x => decide (x % t = k)).length := by unfold hOn; rw [List.length_map]
theorem charges_at {r : List Int} {t : Int} {k : Nat} (h : k < t.toNat) : (chargesM r t).getD k 0 = ((hOn (beadsM r (shareM r t * t).toNat) t (0 + (k : Int))).length : Int) - shareM r t := by
  rw [← getD_elem (by rw [charges_len]; exact h)]
  simp only [chargesM, partedM, List.getElem_map, List.getElem_range]
theorem hook_bounds {r : List Int} (hrow : IsRow r) {x : Int} (hx : x ∈ (hooksM r).flatten) : 1 ≤ x ∧ x ≤ r.getD 0 0 + (r.length : Int) - 1 := by
  obtain ⟨l, hl, hxl⟩ := List.mem_flatten.mp hx
  unfold hooksM at hl
  obtain ⟨k, hk, e⟩ := List.mem_map.mp hl
  have hk' : k < r.length := List.mem_range.mp hk
  rw [← e] at hxl
  unfold hookLine at hxl
  obtain ⟨j, hj, e2⟩ := List.mem_map.mp hxl
  have hj' := List.mem_range.mp hj
  have h1 := linesAt_le (r.drop (k + 1)) ((j : Nat) : Int)
  rw [List.length_drop] at h1
  have h2 := fall_le hrow.2 k 0 (by omega)
  rw [Nat.zero_add] at h2
  omega
theorem hOn_shift {l : List Int} {t e : Int} (ht : 1 ≤ t) (he : 0 ≤ e) {k : Nat} (hk : (k : Int) < t) : ((hOn (shiftI (e * t).toNat l) t (0 + (k : Int))).length : Int) = e + ((hOn l t (0 + (k : Int))).length : Int) := by
  rw [hOn_length, hOn_length]
  unfold shiftI
  have hd : 0 ≤ e * t := Int.mul_nonneg he (by omega)
  rw [List.filter_append, List.length_append, rng_rod ht he hk, rod_len, List.filter_map, List.length_map]
  have f3 : l.filter ((fun x => decide (x % t = 0 + (k : Int))) ∘ fun x => x + (((e * t).toNat : Nat) : Int)) = l.filter fun x => decide (x % t = 0 + (k : Int)) := by
    refine List.filter_congr fun x _ => ?_
    have e1 : (((e * t).toNat : Nat) : Int) = e * t := by omega
    show decide ((x + (((e * t).toNat : Nat) : Int)) % t = _) = _
    rw [e1, Int.add_mul_emod_self_right]
  rw [f3]
  omega
theorem beads_up {r : List Int} {m : Nat} (hr : IsRow r) (hm : r.length ≤ m) : Up (beadsM r m) ∧ ∀ x ∈ beadsM r m, 0 ≤ x := by
  have h := beads_rise (r := r) (m := m) (fun x hx => by have := isRow_pos hr x hx; omega) (isRow_pair hr) hm
  refine ⟨rise_up h, fun x hx => ?_⟩
  obtain ⟨i, hi, e⟩ := List.getElem_of_mem hx
  rw [← e, getD_elem hi]
  exact rise_pos h i hi
theorem nn_sum : ∀ {l : List Int}, (∀ x ∈ l, 0 ≤ x) → 0 ≤ l.sum
  | [], _ => Int.le_refl _
  | a :: l, h => by
    have := h a (List.mem_cons_self ..)
    have := nn_sum (l := l) fun x hx => h x (List.mem_cons_of_mem _ hx)
    rw [List.sum_cons]
    omega
theorem le_sum : ∀ {l : List Int}, (∀ x ∈ l, 0 ≤ x) → ∀ y ∈ l, y ≤ l.sum
  | [], _, y, h => by cases h
  | a :: l, h, y, hy => by
    have h1 := h a (List.mem_cons_self ..)
    have h2 := nn_sum (l := l) fun x hx => h x (List.mem_cons_of_mem _ hx)
    rw [List.sum_cons]
    rcases List.mem_cons.mp hy with z | z
    · omega
    · have := le_sum (l := l) (fun x hx => h x (List.mem_cons_of_mem _ hx)) y z
      omega
theorem row_sum {q : List Int} (h : IsRow q) : 0 ≤ q.sum ∧ ∀ x ∈ q, 1 ≤ x ∧ x ≤ q.sum := by
  have hp := isRow_pos h
  have hn : ∀ x ∈ q, 0 ≤ x := fun x hx => by have := hp x hx; omega
  exact ⟨nn_sum hn, fun x hx => ⟨hp x hx, le_sum hn x hx⟩⟩
def cutI (r : List Int) (lo hi : Option Int) : List Int := (r.drop (HT.sIx r.length 0 lo)).take (HT.sIx r.length r.length hi - HT.sIx r.length 0 lo)
theorem cutV_int (r : List Int) (lo hi : Option Int) : cutV (r.map V.int) lo hi = (cutI r lo hi).map V.int := by
  unfold cutV cutI
  rw [List.length_map, List.map_take, List.map_drop]
theorem comp_pos {K : PySem.W.Frag} {a D : Addr} {r : List Int} {Q : VK} {H : Hp} (hS : SqL K H a (r.map V.int)) (hlen : r.length ≤ 10000) (hD : H D = none)
    (q : ∀ H', Same H H' → H' D = some (.lst ((r.filter fun n => decide (0 < n)).map V.int)) → Q (.ref D) H') :
    CompW (Itl K a) (gName 0) (tTest (tOp (rI0 fun i j => .bl (decide (j < i))) (tVar 0) (tC (.int 0)))) (tVar 0) Q D [none] H := by
  have hl : (r.map V.int).length = r.length := List.length_map _
  have hs : sizeLine = 16777216 := sizeLine_eq
  refine comp_list (K := K) (a := a) (xs := r.map V.int) (fun i ys σ H2 => ∃ u : Option V, σ = [u] ∧ Same H H2 ∧ H2 D = some (.lst ys) ∧ ys = ((r.take i).filter fun n => decide (0 < n)).map V.int)
    ⟨none, rfl, same_new hD _, upd_same, rfl⟩ (fun i ys σ H2 _ ⟨_, _, s2, _⟩ => s2.seq hS) ?_ ?_
  · rintro i x ys σ H2 hi ⟨u, rfl, s2, hD2, rfl⟩
    have hil : i < (r.map V.int).length := (List.getElem?_eq_some_iff.mp hi).1
    rw [hl] at hil
    obtain rfl : x = V.int (r.getD i 0) := by
      rw [List.getElem?_map, getD_of hil] at hi
      exact (Option.some.inj hi).symm
    have step := take_succ_filter (fun n => decide (0 < n)) r i (r.getD i 0) (getD_of hil)
    refine ⟨_, rfl, _, _, rfl, rfl, _, rfl, ?_⟩
    refine ite2 (fun c => ?_) (fun c => ?_)
    · refine ⟨_, rfl, hD2, ?_, _, rfl, same_upd s2 hD, upd_same, ?_⟩
      · have z := List.length_filter_le (fun n : Int => decide (0 < n)) (r.take i)
        rw [List.length_map]
        rw [List.length_take] at z
        omega
      · rw [step, if_pos c, List.map_append]
        rfl
    · refine ⟨_, rfl, s2, hD2, ?_⟩
      rw [step, if_neg c, List.append_nil]
  · rintro ys σ H2 ⟨u, rfl, s2, hD2, rfl⟩
    refine q H2 s2 ?_
    rw [hl, List.take_length] at hD2
    exact hD2
theorem gaps_at {r : List Int} {m k : Nat} (hm : r.length ≤ m) (hk : k < m) : (gapsM r m).getD k 0 = if m - 1 - k < r.length then r.getD (m - 1 - k) 0 else 0 := by
  unfold gapsM
  by_cases z : k < m - r.length
  · rw [getD_appL (by rw [List.length_replicate]; exact z), rep_at, if_neg (by omega)]
  · rw [getD_appR (by rw [List.length_replicate]; omega), List.length_replicate, if_pos (by omega)]
    rw [List.getD_eq_getElem?_getD, List.getElem?_reverse (by omega), ← List.getD_eq_getElem?_getD]
    congr 1
    omega

theorem getD_ge {r : List Int} {l : Nat} (h : r.length ≤ l) : r.getD l 0 = 0 := by
  rw [List.getD_eq_getElem?_getD, List.getElem?_eq_none h]; rfl
theorem row_all {r : List Int} (h : IsRow r) (l : Nat) : 0 ≤ r.getD l 0 ∧ r.getD (l + 1) 0 ≤ r.getD l 0 := by
  have h0 : ∀ l : Nat, 0 ≤ r.getD l 0 := fun l => by
    by_cases z : l < r.length
    · have := h.1 l z; omega
    · rw [getD_ge (by omega)]; exact Int.le_refl _
  refine ⟨h0 l, ?_⟩
  by_cases z : l + 1 < r.length
  · exact h.2 l z
  · rw [getD_ge (l := l + 1) (by omega)]; exact h0 l
def dAt (r : List Int) (m l : Nat) : Int := r.getD l 0 + ((m : Int) - 1 - (l : Int))
theorem beads_rev {r : List Int} {m : Nat} (hm : r.length ≤ m) : (beadsM r m).reverse = (List.range m).map (dAt r m) := by
  refine List.ext_getElem (by rw [List.length_reverse, beads_len, List.length_map, List.length_range]) fun i h1 h2 => ?_
  rw [List.length_reverse, beads_len] at h1
  rw [List.getElem_reverse, List.getElem_map, List.getElem_range, getD_elem, beads_len, beads_at (by omega), gaps_at hm (by omega)]
  unfold dAt
  rw [show m - 1 - (m - 1 - i) = i by omega]
  by_cases z : i < r.length
  · rw [if_pos z]; omega
  · rw [if_neg z, getD_ge (by omega)]; omega
theorem mem_beads {r : List Int} {m : Nat} (hm : r.length ≤ m) {y : Int} : y ∈ beadsM r m ↔ ∃ l : Nat, l < m ∧ y = dAt r m l := by
  rw [← List.mem_reverse, beads_rev hm, List.mem_map]
  constructor
  · rintro ⟨l, hl, e⟩; exact ⟨l, List.mem_range.mp hl, e.symm⟩
  · rintro ⟨l, hl, e⟩; exact ⟨l, List.mem_range.mpr hl, e.symm⟩
theorem dAt_lt {r : List Int} (h : IsRow r) (m : Nat) {l : Nat} : ∀ d : Nat, dAt r m (l + d + 1) < dAt r m l
  | 0 => by have := (row_all h l).2; unfold dAt; show r.getD (l + 1) 0 + _ < _; omega
  | d + 1 => by
    have a := dAt_lt h m (l := l) d
    have b := (row_all h (l + d + 1)).2
    unfold dAt at a ⊢
    show r.getD (l + d + 1 + 1) 0 + _ < _
    omega
theorem dAt_gt {r : List Int} (h : IsRow r) (m : Nat) {a b : Nat} (hab : a < b) : dAt r m b < dAt r m a := by
  have := dAt_lt h m (l := a) (b - a - 1)
  rw [show a + (b - a - 1) + 1 = b by omega] at this
  exact this
theorem filt_getD : ∀ {N : List Int}, (∀ x ∈ N, 0 ≤ x) → N.Pairwise (fun a b => b ≤ a) → ∀ l : Nat, (N.filter fun n => decide (0 < n)).getD l 0 = N.getD l 0
  | [], _, _, _ => rfl
  | a :: N, h0, hp, l => by
    have hp' := List.pairwise_cons.mp hp
    have ha := h0 a (List.mem_cons_self ..)
    by_cases z : 0 < a
    · rw [List.filter_cons, if_pos (decide_eq_true z)]
      cases l with
      | zero => rfl
      | succ l =>
        show (N.filter _).getD l 0 = N.getD l 0
        exact filt_getD (fun x hx => h0 x (List.mem_cons_of_mem _ hx)) hp'.2 l
    · have e : (a :: N).filter (fun n => decide (0 < n)) = [] := List.filter_eq_nil_iff.mpr fun y hy => by
        rcases List.mem_cons.mp hy with e | e
        · rw [e]; simpa using z
        · have := hp'.1 y e
          simp; omega
      rw [e]
      have : ∀ y ∈ a :: N, y = 0 := fun y hy => by
        have := h0 y hy
        rcases List.mem_cons.mp hy with e | e
        · omega
        · have := hp'.1 y e; omega
      by_cases q : l < (a :: N).length
      · rw [← getD_elem q, this _ (List.getElem_mem q)]; rfl
      · rw [getD_ge (r := a :: N) (by omega)]; rfl
def mvM (r : List Int) (k L : Nat) (j : Int) : List Int := r.take k ++ ((r.drop (k + 1)).take (L - (k + 1))).map (fun n => n - 1) ++ [j] ++ r.drop L
theorem mv_len {r : List Int} {k L : Nat} {j : Int} (hk : k < L) (hL : L ≤ r.length) : (mvM r k L j).length = r.length := by
  unfold mvM
  simp only [List.length_append, List.length_map, List.length_take, List.length_drop, List.length_singleton]
  omega
theorem mv_at {r : List Int} {k L : Nat} {j : Int} (hk : k < L) (hL : L ≤ r.length) (l : Nat) : (mvM r k L j).getD l 0 = if l < k then r.getD l 0 else if l + 1 < L then r.getD (l + 1) 0 - 1 else if l + 1 = L then j else r.getD l 0 := by
  unfold mvM
  have hA : (r.take k).length = k := by rw [List.length_take]; omega
  have hB : (((r.drop (k + 1)).take (L - (k + 1))).map (fun n => n - 1)).length = L - (k + 1) := by
    rw [List.length_map, List.length_take, List.length_drop]; omega
  by_cases z1 : l < k
  · rw [if_pos z1, getD_appL (by simp only [List.length_append, hA, hB, List.length_singleton]; omega), getD_appL (by simp only [List.length_append, hA, hB]; omega), getD_appL (by omega), getD_take z1]
  rw [if_neg z1]
  by_cases z2 : l + 1 < L
  · rw [if_pos z2, getD_appL (by simp only [List.length_append, hA, hB, List.length_singleton]; omega), getD_appL (by simp only [List.length_append, hA, hB]; omega), getD_appR (by omega), hA]
    have hl : l - k < ((r.drop (k + 1)).take (L - (k + 1))).length := by rw [List.length_take, List.length_drop]; omega
    rw [List.getD_eq_getElem?_getD, List.getElem?_map, List.getElem?_eq_getElem hl]
    show ((r.drop (k + 1)).take (L - (k + 1)))[l - k] - 1 = _
    rw [List.getElem_take, List.getElem_drop, getD_elem, show k + 1 + (l - k) = l + 1 by omega]
  rw [if_neg z2]
  by_cases z3 : l + 1 = L
  · rw [if_pos z3, getD_appL (by simp only [List.length_append, hA, hB, List.length_singleton]; omega), getD_appR (by simp only [List.length_append, hA, hB]; omega)]
    simp only [List.length_append, hA, hB]
    rw [show l - (k + (L - (k + 1))) = 0 by omega]
    rfl
  rw [if_neg z3, getD_appR (by simp only [List.length_append, hA, hB, List.length_singleton]; omega)]
  simp only [List.length_append, hA, hB, List.length_singleton]
  rw [List.getD_eq_getElem?_getD, List.getElem?_drop, ← List.getD_eq_getElem?_getD, show L + (l - (k + (L - (k + 1)) + 1)) = l by omega]
structure Cut (r : List Int) (k L : Nat) (j : Int) : Prop where
  row : IsRow r
  j0 : 0 ≤ j
  hk : k < L
  hL : L ≤ r.length
  lo : ∀ l : Nat, l < L → j < r.getD l 0
  hi : r.getD L 0 ≤ j
theorem mv_fall {r : List Int} {k L : Nat} {j : Int} (C : Cut r k L j) (l : Nat) : 0 ≤ (mvM r k L j).getD l 0 ∧ (mvM r k L j).getD (l + 1) 0 ≤ (mvM r k L j).getD l 0 := by
  obtain ⟨row, j0, hk, hL, lo, hi⟩ := C
  have a := row_all row l
  have b := row_all row (l + 1)
  rw [mv_at hk hL, mv_at hk hL]
  have c1 : l + 1 < L → j < r.getD (l + 1) 0 := lo (l + 1)
  have c2 : l + 1 + 1 < L → j < r.getD (l + 1 + 1) 0 := lo (l + 1 + 1)
  have c3 : l < L → j < r.getD l 0 := lo l
  have c4 : l + 1 = L → r.getD (l + 1) 0 ≤ j := fun e => by rw [e]; exact hi
  have c5 : l + 1 = L → r.getD L 0 ≤ j := fun _ => hi
  by_cases z1 : l < k
  · rw [if_pos z1]
    by_cases y1 : l + 1 < k
    · rw [if_pos y1]; exact a
    · rw [if_neg y1]
      by_cases y2 : l + 1 + 1 < L
      · rw [if_pos y2]; omega
      · rw [if_neg y2, if_pos (by omega)]
        have := c3 (by omega)
        omega
  · rw [if_neg z1, if_neg (show ¬ l + 1 < k by omega)]
    by_cases z2 : l + 1 < L
    · rw [if_pos z2]
      have := c1 z2
      by_cases y2 : l + 1 + 1 < L
      · rw [if_pos y2]; omega
      · rw [if_neg y2, if_pos (by omega)]; omega
    · rw [if_neg z2, if_neg (show ¬ l + 1 + 1 < L by omega), if_neg (show ¬ l + 1 + 1 = L by omega)]
      by_cases z3 : l + 1 = L
      · rw [if_pos z3]; exact ⟨j0, c4 z3⟩
      · rw [if_neg z3]; exact a
def cutR (r : List Int) (k L : Nat) (j : Int) : List Int := (mvM r k L j).filter fun n => decide (0 < n)
theorem mv_pair {r : List Int} {k L : Nat} {j : Int} (C : Cut r k L j) : (∀ x ∈ mvM r k L j, 0 ≤ x) ∧ (mvM r k L j).Pairwise (fun a b => b ≤ a) := by
  refine ⟨fun x hx => ?_, fall_pair.mp fun l _ => (mv_fall C l).2⟩
  obtain ⟨i, hi, e⟩ := List.getElem_of_mem hx
  rw [← e, getD_elem hi]
  exact (mv_fall C i).1
theorem cut_row {r : List Int} {k L : Nat} {j : Int} (C : Cut r k L j) : IsRow (cutR r k L j) := by
  refine isRow_iff.mpr ⟨fun x hx => ?_, (mv_pair C).2.filter _⟩
  have := of_decide_eq_true (List.mem_filter.mp hx).2
  omega
theorem cut_len {r : List Int} {k L : Nat} {j : Int} (C : Cut r k L j) : (cutR r k L j).length ≤ r.length := by
  have := List.length_filter_le (fun n : Int => decide (0 < n)) (mvM r k L j)
  rw [mv_len C.hk C.hL] at this
  exact this
theorem cut_at {r : List Int} {k L : Nat} {j : Int} (C : Cut r k L j) (m l : Nat) : dAt (cutR r k L j) m l = if l < k then dAt r m l else if l + 1 < L then dAt r m (l + 1) else if l + 1 = L then j + (m : Int) - (L : Int) else dAt r m l := by
  unfold dAt cutR
  rw [filt_getD (mv_pair C).1 (mv_pair C).2, mv_at C.hk C.hL]
  by_cases z1 : l < k
  · rw [if_pos z1, if_pos z1]
  rw [if_neg z1, if_neg z1]
  by_cases z2 : l + 1 < L
  · rw [if_pos z2, if_pos z2]; omega
  rw [if_neg z2, if_neg z2]
  by_cases z3 : l + 1 = L
  · rw [if_pos z3, if_pos z3]; omega
  rw [if_neg z3, if_neg z3]
theorem cut_free {r : List Int} {k L : Nat} {j : Int} (C : Cut r k L j) (m : Nat) {l : Nat} : (l < L → j + (m : Int) - (L : Int) < dAt r m l) ∧ (L ≤ l → dAt r m l < j + (m : Int) - (L : Int)) := by
  constructor
  · intro h
    have := C.lo l h
    unfold dAt; omega
  · intro h
    have h0 : r.getD l 0 ≤ j := by
      have : ∀ d : Nat, r.getD (L + d) 0 ≤ j := fun d => by
        induction d with
        | zero => exact C.hi
        | succ d ih => have := (row_all C.row (L + d)).2; rw [← Nat.add_assoc]; omega
      have := this (l - L)
      rw [show L + (l - L) = l by omega] at this
      exact this
    unfold dAt; omega
theorem cut_mem {r : List Int} {k L : Nat} {j : Int} (C : Cut r k L j) {m : Nat} (hm : r.length ≤ m) (y : Int) : y ∈ beadsM (cutR r k L j) m ↔ (y ∈ beadsM r m ∧ y ≠ dAt r m k) ∨ y = j + (m : Int) - (L : Int) := by
  have hl := cut_len C
  have hL := C.hL
  have hk := C.hk
  rw [mem_beads (by omega), mem_beads hm]
  constructor
  · rintro ⟨l, hl, rfl⟩
    rw [cut_at C]
    by_cases z1 : l < k
    · rw [if_pos z1]
      exact .inl ⟨⟨l, hl, rfl⟩, Int.ne_of_gt (dAt_gt C.row m z1)⟩
    rw [if_neg z1]
    by_cases z2 : l + 1 < L
    · rw [if_pos z2]
      exact .inl ⟨⟨l + 1, by omega, rfl⟩, Int.ne_of_lt (dAt_gt C.row m (by omega))⟩
    rw [if_neg z2]
    by_cases z3 : l + 1 = L
    · rw [if_pos z3]; exact .inr rfl
    rw [if_neg z3]
    exact .inl ⟨⟨l, hl, rfl⟩, Int.ne_of_lt (dAt_gt C.row m (by omega))⟩
  · rintro (⟨⟨l, hl, rfl⟩, hne⟩ | rfl)
    · have hlk : l ≠ k := fun e => hne (by rw [e])
      by_cases z1 : l < k
      · exact ⟨l, hl, by rw [cut_at C, if_pos z1]⟩
      by_cases z2 : l < L
      · refine ⟨l - 1, by omega, ?_⟩
        rw [cut_at C, if_neg (by omega), if_pos (by omega), show l - 1 + 1 = l by omega]
      · exact ⟨l, hl, by rw [cut_at C, if_neg z1, if_neg (by omega), if_neg (by omega)]⟩
    · refine ⟨L - 1, by omega, ?_⟩
      rw [cut_at C, if_neg (by omega), if_neg (by omega), if_pos (by omega)]
theorem cnt_mid (k L : Nat) : ∀ w : Nat, ((List.range w).filter fun l => decide (k < l ∧ l < L)).length = min w L - (k + 1)
  | 0 => by simp
  | w + 1 => by
    rw [List.range_succ, List.filter_append, List.length_append, cnt_mid k L w]
    by_cases z : k < w ∧ w < L
    · rw [List.filter_cons, if_pos (decide_eq_true z)]
      show _ + 1 = _
      omega
    · rw [List.filter_cons, if_neg (by simpa using z)]
      show _ + 0 = _
      omega
theorem cut_legs {r : List Int} {k L : Nat} {j : Int} (C : Cut r k L j) {m : Nat} (hm : r.length ≤ m) : ((beadsM r m).filter fun y => decide (j + (m : Int) - (L : Int) < y ∧ y < dAt r m k)).length = L - (k + 1) := by
  have hL := C.hL
  rw [← List.length_reverse, ← List.filter_reverse, beads_rev hm, List.filter_map, List.length_map]
  have e : (List.range m).filter ((fun y => decide (j + (m : Int) - (L : Int) < y ∧ y < dAt r m k)) ∘ dAt r m) = (List.range m).filter fun l => decide (k < l ∧ l < L) := by
    refine List.filter_congr fun l _ => ?_
    refine decide_eq_decide.mpr ?_
    have a := cut_free C m (l := l)
    constructor
    · rintro ⟨h1, h2⟩
      refine ⟨?_, ?_⟩
      · by_cases z : k < l
        · exact z
        · by_cases e : l = k
          · rw [e] at h2; omega
          · have := dAt_gt C.row m (show l < k by omega); omega
      · by_cases z : l < L
        · exact z
        · have := a.2 (by omega); omega
    · rintro ⟨h1, h2⟩
      exact ⟨a.1 h2, dAt_gt C.row m h1⟩
  rw [e, cnt_mid]
  omega
theorem sub_rod (x t : Int) : (x - t) % t = x % t := by
  have := Int.add_mul_emod_self_right x (-1) t
  rw [show x + -1 * t = x - t by omega] at this
  exact this
theorem up_perm {S T : List Int} {x f : Int} (hS : Up S) (hT : Up T) (hx : x ∈ S) (hf : f ∉ S) (h : ∀ y, y ∈ T ↔ (y ∈ S ∧ y ≠ x) ∨ y = f) : S.Perm (x :: S.filter fun y => decide (y ≠ x)) ∧ T.Perm (f :: S.filter fun y => decide (y ≠ x)) := by
  have nS := up_nodup hS
  have nT := up_nodup hT
  have nC : (S.filter fun y => decide (y ≠ x)).Nodup := nS.filter _
  have mC : ∀ y, y ∈ S.filter (fun y => decide (y ≠ x)) ↔ y ∈ S ∧ y ≠ x := fun y => by rw [List.mem_filter, decide_eq_true_eq]
  constructor
  · refine (List.perm_ext_iff_of_nodup nS (List.nodup_cons.mpr ⟨fun z => ((mC x).mp z).2 rfl, nC⟩)).mpr fun y => ?_
    rw [List.mem_cons, mC]
    constructor
    · intro hy
      by_cases z : y = x
      · exact .inl z
      · exact .inr ⟨hy, z⟩
    · rintro (e | e)
      · rw [e]; exact hx
      · exact e.1
  · refine (List.perm_ext_iff_of_nodup nT (List.nodup_cons.mpr ⟨fun z => hf ((mC f).mp z).1, nC⟩)).mpr fun y => ?_
    rw [List.mem_cons, mC, h y]
    exact Or.comm
theorem charges_any {r : List Int} {t s : Int} (ht : 1 ≤ t) (hs : shareM r t ≤ s) {k : Nat} (h : k < t.toNat) : ((hOn (beadsM r (s * t).toNat) t (0 + (k : Int))).length : Int) = s + (chargesM r t).getD k 0 := by
  have b := share_mul r ht
  have hd : (s * t).toNat - (shareM r t * t).toNat = ((s - shareM r t) * t).toNat := by
    have e : (s - shareM r t) * t = s * t - shareM r t * t := by grind
    rw [e]; omega
  have hm : (shareM r t * t).toNat ≤ (s * t).toNat := by
    have := Int.mul_le_mul_of_nonneg_right hs (show 0 ≤ t by omega)
    omega
  rw [charges_at h, beads_shift (r := r) (m := (shareM r t * t).toNat) (n := (s * t).toNat) (by omega) hm, hd, hOn_shift ht (by omega) (by omega)]
  omega
theorem share_mono {r r' : List Int} {t : Int} (ht : 1 ≤ t) (h : r'.length ≤ r.length) : shareM r' t ≤ shareM r t := by
  unfold shareM
  exact Int.ediv_le_ediv (by omega) (by omega)
structure Mv (S S1 : List Int) (x t : Int) (legs : Nat) : Prop where
  mem : x ∈ S
  out : x - t ∉ S
  pos : 0 ≤ x - t
  all : ∀ y, y ∈ S1 ↔ (y ∈ S ∧ y ≠ x) ∨ y = x - t
  cnt : (S.filter fun y => decide (x - t < y ∧ y < x)).length = legs
structure Rim (r r' : List Int) (t : Int) (legs : Nat) : Prop where
  row : IsRow r'
  len : r'.length ≤ r.length
  sum : r'.sum = r.sum - t
  core : coreM r' t = coreM r t
  mv : ∀ m : Nat, r.length ≤ m → ∃ x : Int, Mv (beadsM r m) (beadsM r' m) x t legs
theorem rim_cut {r : List Int} {k L : Nat} {j t : Int} (C : Cut r k L j) (ht : t = r.getD k 0 - j + ((L - (k + 1) : Nat) : Int)) : Rim r (cutR r k L j) t (L - (k + 1)) := by
  have hrow := C.row
  have crow := cut_row C
  have clen := cut_len C
  have hk := C.hk
  have hL := C.hL
  have hlo := C.lo k hk
  have hj0 := C.j0
  have h1 : 1 ≤ t := by omega
  have hfx : ∀ m : Nat, j + (m : Int) - (L : Int) = dAt r m k - t := fun m => by unfold dAt; omega
  have W : ∀ m : Nat, r.length ≤ m → Mv (beadsM r m) (beadsM (cutR r k L j) m) (dAt r m k) t (L - (k + 1)) := fun m hm => by
    refine ⟨(mem_beads hm).mpr ⟨k, by omega, rfl⟩, fun z => ?_, by rw [← hfx]; omega, fun y => by rw [cut_mem C hm, hfx], by rw [← hfx]; exact cut_legs C hm⟩
    obtain ⟨l, hl, e⟩ := (mem_beads hm).mp z
    rw [← hfx] at e
    have := cut_free C m (l := l)
    by_cases q : l < L
    · have := this.1 q; omega
    · have := this.2 (by omega); omega
  have P : ∀ m : Nat, r.length ≤ m → (beadsM r m).Perm (dAt r m k :: (beadsM r m).filter fun y => decide (y ≠ dAt r m k)) ∧ (beadsM (cutR r k L j) m).Perm ((dAt r m k - t) :: (beadsM r m).filter fun y => decide (y ≠ dAt r m k)) := fun m hm =>
    up_perm (beads_up hrow hm).1 (beads_up crow (by omega : (cutR r k L j).length ≤ m)).1 (W m hm).mem (W m hm).out (W m hm).all
  refine ⟨crow, clen, ?_, ?_, fun m hm => ⟨_, W m hm⟩⟩
  · obtain ⟨p1, p2⟩ := P r.length (Nat.le_refl _)
    have e1 := perm_sum p1
    have e2 := perm_sum p2
    rw [List.sum_cons] at e1 e2
    have r1 : Rise (beadsM r r.length) := by have := beads_up (m := r.length) hrow (Nat.le_refl _); exact up_rise this.1 this.2
    have r2 : Rise (beadsM (cutR r k L j) r.length) := by have := beads_up (m := r.length) crow clen; exact up_rise this.1 this.2
    have s1 := rowOf_sum r1
    have s2 := rowOf_sum r2
    rw [rowOf_beads (isRow_pos hrow) (Nat.le_refl _), beads_len] at s1
    rw [rowOf_beads (isRow_pos crow) clen, beads_len] at s2
    omega
  · unfold coreM
    have e : chargesM (cutR r k L j) t = chargesM r t := by
      have hb := share_mul r h1
      obtain ⟨p1, p2⟩ := P (shareM r t * t).toNat (by omega)
      refine List.ext_getElem (by rw [charges_len, charges_len]) fun i a b => ?_
      rw [charges_len] at a
      have c1 := charges_any (r := r) h1 (Int.le_refl _) a
      have c2 := charges_any (r := cutR r k L j) h1 (share_mono h1 clen) a
      rw [getD_elem, getD_elem]
      have q1 := (p1.filter fun p => decide (p % t = 0 + (i : Int))).length_eq
      have q2 := (p2.filter fun p => decide (p % t = 0 + (i : Int))).length_eq
      rw [hOn_length] at c1 c2
      rw [List.filter_cons] at q1 q2
      rw [sub_rod] at q2
      rw [q1] at c1
      rw [q2] at c2
      split at c1 <;> split at c2 <;> simp_all <;> omega
    rw [e]

theorem cutI_pre {r : List Int} {k : Nat} (h : k ≤ r.length) : cutI r none (some (k : Int)) = r.take k := by
  unfold cutI
  rw [HT.sIx_none, HT.sIx_nat, List.drop_zero, Nat.sub_zero, Nat.min_eq_left h]
theorem cutI_suf {r : List Int} {a : Nat} (ha : a ≤ r.length) : cutI r (some (a : Int)) none = r.drop a := by
  unfold cutI
  rw [HT.sIx_none, HT.sIx_nat, Nat.min_eq_left ha, List.take_of_length_le (by rw [List.length_drop]; omega)]
theorem head_getD (r : List Int) : r.headD 0 = r.getD 0 0 := by cases r <;> rfl
theorem turned_getD {r : List Int} (hr : IsRow r) (j : Nat) : (turnedM r).getD j 0 = (linesAt r (j : Nat) : Int) := by
  by_cases z : j < (r.headD 0).toNat
  · exact turned_at z
  · rw [getD_ge (by rw [turned_len]; omega)]
    have : linesAt r (j : Nat) = 0 := linesAt_none fun x hx => by
      obtain ⟨i, hi, e⟩ := List.getElem_of_mem hx
      have := row_le_head hr hi
      rw [← getD_elem hi, e] at this
      omega
    rw [this]; rfl
theorem lines_iff {r : List Int} (hr : IsRow r) (j : Nat) (k : Nat) : k < linesAt r (j : Int) ↔ (j : Int) < r.getD k 0 := by
  rw [cnt_gt (isRow_pair hr)]
  constructor
  · exact fun h => h.2
  · intro h
    refine ⟨?_, h⟩
    by_cases z : k < r.length
    · exact z
    · rw [getD_ge (by omega)] at h; omega
theorem lines_is {r : List Int} (hr : IsRow r) {j L : Nat} (h1 : ∀ l : Nat, l < L → (j : Int) < r.getD l 0) (h2 : r.getD L 0 ≤ (j : Int)) : linesAt r (j : Int) = L := by
  rcases Nat.lt_trichotomy (linesAt r (j : Int)) L with z | z | z
  · have := (lines_iff hr j _).mpr (h1 _ z); omega
  · exact z
  · have := (lines_iff hr j L).mp z; omega
theorem row_mono {r : List Int} (hr : IsRow r) {a b : Nat} (h : a ≤ b) : r.getD b 0 ≤ r.getD a 0 := by
  have : ∀ d : Nat, r.getD (a + d) 0 ≤ r.getD a 0 := fun d => by
    induction d with
    | zero => exact Int.le_refl _
    | succ d ih => have := (row_all hr (a + d)).2; rw [← Nat.add_assoc]; omega
  have := this (b - a)
  rw [show a + (b - a) = b by omega] at this
  exact this
theorem turn_mem {r : List Int} (hr : IsRow r) {m n : Nat} (hm : r.length ≤ m) (hn : r.headD 0 ≤ (n : Int)) (y : Int) : y ∈ beadsM (turnedM r) n ↔ 0 ≤ y ∧ y < (m : Int) + (n : Int) ∧ (m : Int) + (n : Int) - 1 - y ∉ beadsM r m := by
  have hl : (turnedM r).length ≤ n := by rw [turned_len]; omega
  have h0 : r.getD 0 0 ≤ (n : Int) := by
    cases r with
    | nil => show (0 : Int) ≤ _; omega
    | cons a r => exact hn
  rw [mem_beads hl, mem_beads hm]
  constructor
  · rintro ⟨j, hj, rfl⟩
    unfold dAt
    rw [turned_getD hr]
    have hL := linesAt_le r (j : Int)
    refine ⟨by omega, by omega, ?_⟩
    rintro ⟨l, hl', e⟩
    have a := lines_iff hr j l
    by_cases z : l < linesAt r (j : Int)
    · have := a.mp z; omega
    · have := fun q => z (a.mpr q); omega
  · rintro ⟨y0, y1, hy⟩
    obtain ⟨f, hf⟩ : ∃ f : Int, f = (m : Int) + (n : Int) - 1 - y := ⟨_, rfl⟩
    rw [← hf] at hy
    have hne : ∀ l : Nat, l < m → f ≠ dAt r m l := fun l hl' e => hy ⟨l, hl', e⟩
    have key : ∀ i : Nat, i ≤ m → (∀ l : Nat, l < i → f < dAt r m l) ∨ ∃ L : Nat, L < i ∧ (∀ l : Nat, l < L → f < dAt r m l) ∧ dAt r m L < f := fun i => by
      induction i with
      | zero => intro _; exact .inl fun l h => absurd h (Nat.not_lt_zero l)
      | succ i ih =>
        intro hi
        rcases ih (by omega) with a | ⟨L, hL, a, b⟩
        · have := hne i (by omega)
          by_cases z : f < dAt r m i
          · refine .inl fun l hl' => ?_
            by_cases q : l = i
            · rw [q]; exact z
            · exact a l (by omega)
          · exact .inr ⟨i, by omega, a, by omega⟩
        · exact .inr ⟨L, by omega, a, b⟩
    obtain ⟨L, hL, ha, hb⟩ : ∃ L : Nat, L ≤ m ∧ (∀ l : Nat, l < L → f < dAt r m l) ∧ r.getD L 0 ≤ f - (m : Int) + (L : Int) := by
      rcases key m (Nat.le_refl _) with a | ⟨L, hL, a, b⟩
      · exact ⟨m, Nat.le_refl _, a, by rw [getD_ge hm]; omega⟩
      · exact ⟨L, by omega, a, by unfold dAt at b; omega⟩
    have hp := (row_all hr L).1
    obtain ⟨j, hj⟩ : ∃ j : Nat, (j : Int) = f - (m : Int) + (L : Int) := ⟨(f - (m : Int) + (L : Int)).toNat, by omega⟩
    have hlow : ∀ l : Nat, l < L → (j : Int) < r.getD l 0 := fun l hl' => by
      have a1 := ha (L - 1) (by omega)
      have a2 := row_mono hr (show l ≤ L - 1 by omega)
      unfold dAt at a1
      omega
    have hLn := lines_is hr hlow (by omega)
    have hjn : j < n := by
      by_cases z : L = 0
      · omega
      · have := hlow 0 (by omega); omega
    refine ⟨j, hjn, ?_⟩
    unfold dAt
    rw [turned_getD hr, hLn]
    omega
def pr (x : Int) : List Int → Int
  | [] => 1
  | y :: ys => (x - y) * pr x ys
def vd : List Int → Int
  | [] => 1
  | y :: ys => pr y ys * vd ys
def sI (n : Nat) (f : Nat → Int) : Int := ((List.range n).map f).sum
theorem sI_cons (n : Nat) (f : Nat → Int) : sI (n + 1) f = f 0 + sI n fun i => f (i + 1) := by
  unfold sI
  rw [List.range_succ_eq_map, List.map_cons, List.sum_cons, List.map_map]
  rfl
theorem sI_congr {n : Nat} {f g : Nat → Int} (h : ∀ i : Nat, i < n → f i = g i) : sI n f = sI n g := by
  unfold sI
  rw [List.map_congr_left fun i hi => h i (List.mem_range.mp hi)]
theorem sI_add (n : Nat) (f g : Nat → Int) : sI n (fun i => f i + g i) = sI n f + sI n g := sum_map_add _ f g
theorem sI_mul (n : Nat) (c : Int) (f : Nat → Int) : sI n (fun i => c * f i) = c * sI n f := by
  induction n with
  | zero => show (0 : Int) = c * 0; omega
  | succ n ih =>
    unfold sI at ih ⊢
    rw [List.range_succ, List.map_append, List.map_append, List.sum_append, List.sum_append, ih]
    simp only [List.map_cons, List.map_nil, List.sum_cons, List.sum_nil]
    grind
theorem pr_pick (x : Int) : ∀ {ys : List Int} {i : Nat}, i < ys.length → pr x ys = (x - ys.getD i 0) * pr x (ys.eraseIdx i)
  | [], i, h => absurd h (Nat.not_lt_zero i)
  | y :: ys, 0, _ => rfl
  | y :: ys, i + 1, h => by
    have ih := pr_pick x (ys := ys) (i := i) (by rw [List.length_cons] at h; omega)
    show (x - y) * pr x ys = (x - ys.getD i 0) * ((x - y) * pr x (ys.eraseIdx i))
    rw [ih]; grind
theorem pr_less (x : Int) : ∀ {ys : List Int} {i : Nat}, i < ys.length → pr x (ys.set i (ys.getD i 0 - 1)) = pr x ys + pr x (ys.eraseIdx i)
  | [], i, h => absurd h (Nat.not_lt_zero i)
  | y :: ys, 0, _ => by
    show (x - (y - 1)) * pr x ys = (x - y) * pr x ys + pr x ys
    grind
  | y :: ys, i + 1, h => by
    have ih := pr_less x (ys := ys) (i := i) (by rw [List.length_cons] at h; omega)
    show (x - y) * pr x (ys.set i (ys.getD i 0 - 1)) = (x - y) * pr x ys + (x - y) * pr x (ys.eraseIdx i)
    rw [ih]; grind
def wS (x : Int) (ys : List Int) : Int := sI ys.length fun i => ys.getD i 0 * pr x (ys.eraseIdx i) * vd (ys.set i (ys.getD i 0 - 1))
theorem wS_eq : ∀ (ys : List Int) (x : Int), wS x ys = ((x - (ys.length : Int)) * pr x ys - x * pr (x - 1) ys) * vd ys
  | [], x => by show (0 : Int) = ((x - 0) * 1 - x * 1) * 1; grind
  | z :: zs, x => by
    have ihx := wS_eq zs x
    have ihz := wS_eq zs z
    have e : wS x (z :: zs) = z * pr x zs * (pr (z - 1) zs * vd zs) + sI zs.length fun i => zs.getD i 0 * ((x - z) * pr x (zs.eraseIdx i)) * (pr z (zs.set i (zs.getD i 0 - 1)) * vd (zs.set i (zs.getD i 0 - 1))) := by
      unfold wS
      rw [List.length_cons, sI_cons]
      rfl
    have e2 : (sI zs.length fun i => zs.getD i 0 * ((x - z) * pr x (zs.eraseIdx i)) * (pr z (zs.set i (zs.getD i 0 - 1)) * vd (zs.set i (zs.getD i 0 - 1)))) = (x - z) * pr z zs * wS x zs + (pr x zs * wS z zs + (0 - pr z zs) * wS x zs) := by
      unfold wS
      rw [← sI_mul, ← sI_mul, ← sI_mul, ← sI_add, ← sI_add]
      refine sI_congr fun i hi => ?_
      have a := pr_pick x (ys := zs) hi
      have b := pr_pick z (ys := zs) hi
      rw [pr_less z hi, a, b]
      grind
    rw [e, e2, ihx, ihz]
    show _ = ((x - ((zs.length + 1 : Nat) : Int)) * ((x - z) * pr x zs) - x * ((x - 1 - z) * pr (x - 1) zs)) * (pr z zs * vd zs)
    have hc : ((zs.length + 1 : Nat) : Int) = (zs.length : Int) + 1 := by omega
    rw [hc]
    generalize pr x zs = A
    generalize pr z zs = B
    generalize pr (z - 1) zs = C
    generalize pr (x - 1) zs = D
    generalize vd zs = W
    generalize (zs.length : Int) = n
    grind
theorem vd_sum : ∀ ys : List Int, 2 * sI ys.length (fun i => ys.getD i 0 * vd (ys.set i (ys.getD i 0 - 1))) = (2 * ys.sum - (ys.length : Int) * ((ys.length : Int) - 1)) * vd ys
  | [] => by show (2 : Int) * 0 = (2 * 0 - 0 * (0 - 1)) * 1; grind
  | z :: zs => by
    have ih := vd_sum zs
    have w := wS_eq zs z
    have e : (sI (z :: zs).length fun i => (z :: zs).getD i 0 * vd ((z :: zs).set i ((z :: zs).getD i 0 - 1))) = z * (pr (z - 1) zs * vd zs) + sI zs.length fun i => zs.getD i 0 * (pr z (zs.set i (zs.getD i 0 - 1)) * vd (zs.set i (zs.getD i 0 - 1))) := by
      rw [List.length_cons, sI_cons]
      rfl
    have e2 : (sI zs.length fun i => zs.getD i 0 * (pr z (zs.set i (zs.getD i 0 - 1)) * vd (zs.set i (zs.getD i 0 - 1)))) = pr z zs * (sI zs.length fun i => zs.getD i 0 * vd (zs.set i (zs.getD i 0 - 1))) + wS z zs := by
      unfold wS
      rw [← sI_mul, ← sI_add]
      refine sI_congr fun i hi => ?_
      rw [pr_less z hi]
      grind
    rw [e, e2, w, List.sum_cons, List.length_cons]
    show _ = _ * (pr z zs * vd zs)
    have hc : ((zs.length + 1 : Nat) : Int) = (zs.length : Int) + 1 := by omega
    rw [hc]
    generalize (sI zs.length fun i => zs.getD i 0 * vd (zs.set i (zs.getD i 0 - 1))) = A at ih ⊢
    generalize pr z zs = B
    generalize pr (z - 1) zs = C
    generalize vd zs = W at ih ⊢
    generalize (zs.length : Int) = n at ih ⊢
    generalize zs.sum = s at ih ⊢
    have h2 : 2 * (B * A) = B * ((2 * s - n * (n - 1)) * W) := by rw [← ih]; grind
    grind

def prodL : List Int → Int
  | [] => 1
  | x :: l => x * prodL l
theorem prodL_perm {a b : List Int} (h : a.Perm b) : prodL a = prodL b := by
  induction h with
  | nil => rfl
  | cons x _ ih => show x * _ = x * _; rw [ih]
  | swap x y l => show y * (x * prodL l) = x * (y * prodL l); grind
  | trans _ _ h1 h2 => rw [h1, h2]
theorem prodL_append : ∀ a b : List Int, prodL (a ++ b) = prodL a * prodL b
  | [], b => by show prodL b = 1 * prodL b; omega
  | x :: a, b => by show x * prodL (a ++ b) = x * prodL a * prodL b; rw [prodL_append a b]; grind
theorem prodL_sub (x : Int) : ∀ ys : List Int, prodL (ys.map fun y => x - y) = pr x ys
  | [] => rfl
  | y :: ys => by show (x - y) * prodL _ = (x - y) * pr x ys; rw [prodL_sub x ys]
def factI : Nat → Int
  | 0 => 1
  | n + 1 => factI n * ((n : Int) + 1)
theorem fact_pos : ∀ n : Nat, 0 < factI n
  | 0 => by decide
  | n + 1 => Int.mul_pos (fact_pos n) (by omega)
theorem prodL_one : ∀ n : Nat, prodL ((List.range n).map fun (i : Nat) => (i : Int) + 1) = factI n
  | 0 => rfl
  | n + 1 => by
    rw [List.range_succ, List.map_append, prodL_append, prodL_one n]
    show factI n * (((n : Int) + 1) * 1) = factI n * ((n : Int) + 1)
    grind
def pI : Nat → (Nat → Int) → Int
  | 0, _ => 1
  | n + 1, f => f 0 * pI n fun i => f (i + 1)
theorem pI_congr : ∀ {n : Nat} {f g : Nat → Int}, (∀ i : Nat, i < n → f i = g i) → pI n f = pI n g
  | 0, _, _, _ => rfl
  | n + 1, f, g, h => by
    show f 0 * pI n _ = g 0 * pI n _
    rw [h 0 (by omega), pI_congr (n := n) (f := fun i => f (i + 1)) (g := fun i => g (i + 1)) fun i hi => h (i + 1) (by omega)]
theorem pI_mul : ∀ (n : Nat) (f g : Nat → Int), pI n (fun i => f i * g i) = pI n f * pI n g
  | 0, _, _ => rfl
  | n + 1, f, g => by
    show f 0 * g 0 * pI n _ = f 0 * pI n _ * (g 0 * pI n _)
    rw [pI_mul n (fun i => f (i + 1)) fun i => g (i + 1)]; grind
theorem pI_pos : ∀ {n : Nat} {f : Nat → Int}, (∀ i : Nat, i < n → 0 < f i) → 0 < pI n f
  | 0, _, _ => by show (0 : Int) < 1; decide
  | n + 1, f, h => Int.mul_pos (h 0 (by omega)) (pI_pos fun i hi => h (i + 1) (by omega))
theorem pI_add (f : Nat → Int) : ∀ (n : Nat) (g : Nat → Int) (d : Nat), (∀ i : Nat, n ≤ i → g i = 1) → pI (n + d) g = pI n g := fun n => by
  induction n generalizing f with
  | zero =>
    intro g d h
    induction d generalizing g with
    | zero => rfl
    | succ d ih =>
      show g 0 * pI (0 + d) _ = 1
      rw [h 0 (Nat.le_refl _), ih (fun i => g (i + 1)) fun i _ => h (i + 1) (Nat.zero_le _)]; rfl
  | succ n ih =>
    intro g d h
    rw [show n + 1 + d = (n + d) + 1 by omega]
    show g 0 * pI (n + d) _ = g 0 * pI n _
    rw [ih f (fun i => g (i + 1)) d fun i hi => h (i + 1) (by omega)]
theorem vd_pI : ∀ D : List Int, vd D = pI D.length fun k => pr (D.getD k 0) (D.drop (k + 1))
  | [] => rfl
  | y :: ys => by
    show pr y ys * vd ys = pr y ys * pI ys.length fun k => pr (ys.getD k 0) (ys.drop (k + 1))
    rw [vd_pI ys]
def topD (r : List Int) (m : Nat) : List Int := (List.range m).map (dAt r m)
theorem top_len (r : List Int) (m : Nat) : (topD r m).length = m := by unfold topD; rw [List.length_map, List.length_range]
theorem top_at {r : List Int} {m k : Nat} (h : k < m) : (topD r m).getD k 0 = dAt r m k := by
  unfold topD
  rw [List.getD_eq_getElem?_getD, List.getElem?_map, List.getElem?_range h]
  rfl
theorem mem_drop {r : List Int} {m k : Nat} {y : Int} : y ∈ (topD r m).drop k ↔ ∃ l : Nat, k ≤ l ∧ l < m ∧ y = dAt r m l := by
  constructor
  · intro h
    obtain ⟨i, hi, e⟩ := List.getElem_of_mem h
    rw [List.length_drop, top_len] at hi
    refine ⟨k + i, by omega, by omega, ?_⟩
    rw [← e, List.getElem_drop, getD_elem, top_at (by omega)]
  · rintro ⟨l, h1, h2, rfl⟩
    refine List.mem_iff_getElem.mpr ⟨l - k, by rw [List.length_drop, top_len]; omega, ?_⟩
    rw [List.getElem_drop, getD_elem, show k + (l - k) = l by omega, top_at h2]
theorem dAt_pos {r : List Int} (hr : IsRow r) {m l : Nat} (h : l < m) : 0 ≤ dAt r m l := by
  have := (row_all hr l).1
  unfold dAt; omega
theorem free_is {r : List Int} (hr : IsRow r) {m : Nat} (hm : r.length ≤ m) {p : Int} (hp : 0 ≤ p) (h : p ∉ beadsM r m) : ∃ j : Nat, p = (j : Int) + (m : Int) - (linesAt r (j : Int) : Int) := by
  have hh := row_head hr
  obtain ⟨n, hn⟩ : ∃ n : Nat, n = (r.headD 0).toNat + p.toNat := ⟨_, rfl⟩
  have T := (turn_mem hr hm (n := n) (by omega) ((m : Int) + (n : Int) - 1 - p)).mpr
  rw [show (m : Int) + (n : Int) - 1 - ((m : Int) + (n : Int) - 1 - p) = p by omega] at T
  by_cases z : 0 ≤ (m : Int) + (n : Int) - 1 - p
  · obtain ⟨j, hj, e⟩ := (mem_beads (by rw [turned_len]; omega)).mp (T ⟨z, by omega, h⟩)
    refine ⟨j, ?_⟩
    unfold dAt at e
    rw [turned_getD hr] at e
    omega
  · have hr0 : r = [] := by
      cases r with
      | nil => rfl
      | cons a r => have := isRow_pos hr a (List.mem_cons_self ..); have hc : (a :: r).headD 0 = a := rfl; rw [hc] at hn hh; omega
    subst hr0
    exact ⟨(p - (m : Int)).toNat, by rw [linesAt_nil]; omega⟩
theorem hook_line {r : List Int} (hr : IsRow r) {m k j : Nat} (hk : k < r.length) (hj : (j : Int) < r.getD k 0) : r.getD k 0 - (j : Int) + (linesAt (r.drop (k + 1)) (j : Int) : Int) = dAt r m k - ((j : Int) + (m : Int) - (linesAt r (j : Int) : Int)) := by
  have := hook_two (isRow_pair hr) hk hj
  unfold dAt
  omega
theorem line_all {r : List Int} (hr : IsRow r) {m : Nat} (hm : r.length ≤ m) {k : Nat} (hk : k < m) : prodL (hookLine r k) * pr (dAt r m k) ((topD r m).drop (k + 1)) = factI (dAt r m k).toNat := by
  have d0 := dAt_pos hr hk
  rw [← prodL_sub, ← prodL_append, ← prodL_one]
  refine prodL_perm ((List.perm_ext_iff_of_nodup ?_ ?_).mpr fun y => ?_)
  · rw [List.nodup_append]
    refine ⟨?_, ?_, fun a ha b hb e => ?_⟩
    · unfold hookLine
      refine List.nodup_iff_pairwise_ne.mpr (List.pairwise_map.mpr (List.pairwise_lt_range.imp_of_mem fun {i j} hi hj hij e => ?_))
      rw [List.mem_range] at hi hj
      by_cases z : k < r.length
      · rw [hook_line hr (m := m) z (by omega), hook_line hr (m := m) z (by omega)] at e
        have : linesAt r (j : Int) ≤ linesAt r (i : Int) := by
          by_cases q : linesAt r (j : Int) ≤ linesAt r (i : Int)
          · exact q
          · have a1 := (lines_iff hr j (linesAt r (i : Int))).mp (by omega)
            have a2 := (lines_iff hr i (linesAt r (i : Int))).mpr (by omega)
            omega
        omega
      · rw [getD_ge (by omega)] at hi; exact absurd hi (Nat.not_lt_zero _)
    · refine List.nodup_iff_pairwise_ne.mpr (List.pairwise_map.mpr ?_)
      refine List.pairwise_iff_getElem.mpr fun i j hi hj hij e => ?_
      rw [List.length_drop, top_len] at hi hj
      rw [List.getElem_drop, List.getElem_drop, getD_elem, getD_elem, top_at (by omega), top_at (by omega)] at e
      have := dAt_gt hr m (show k + 1 + i < k + 1 + j by omega)
      omega
    · obtain ⟨z, hz, rfl⟩ := List.mem_map.mp hb
      obtain ⟨l, h1, h2, rfl⟩ := mem_drop.mp hz
      obtain ⟨j, hj, rfl⟩ := List.mem_map.mp ha
      rw [List.mem_range] at hj
      by_cases q : k < r.length
      · rw [hook_line hr (m := m) q (by omega)] at e
        by_cases w : l < linesAt r (j : Int)
        · have := (lines_iff hr j l).mp w
          unfold dAt at e; omega
        · have : ¬ (j : Int) < r.getD l 0 := fun u => w ((lines_iff hr j l).mpr u)
          unfold dAt at e; omega
      · rw [getD_ge (by omega)] at hj; exact absurd hj (Nat.not_lt_zero _)
  · exact List.nodup_iff_pairwise_ne.mpr (List.pairwise_map.mpr (List.pairwise_lt_range.imp fun {i j} hij e => by omega))
  · rw [List.mem_append, List.mem_map, List.mem_map]
    constructor
    · rintro (h | ⟨z, hz, rfl⟩)
      · obtain ⟨j, hj, rfl⟩ := List.mem_map.mp h
        rw [List.mem_range] at hj
        by_cases q : k < r.length
        · rw [hook_line hr (m := m) q (by omega)]
          have hl := linesAt_le r (j : Int)
          have h1 := (lines_iff hr j k).mpr (by omega)
          refine ⟨(dAt r m k - ((j : Int) + (m : Int) - (linesAt r (j : Int) : Int)) - 1).toNat, List.mem_range.mpr ?_, ?_⟩
          · unfold dAt; omega
          · unfold dAt; omega
        · rw [getD_ge (by omega)] at hj; exact absurd hj (Nat.not_lt_zero _)
      · obtain ⟨l, h1, h2, rfl⟩ := mem_drop.mp hz
        have a1 := dAt_gt hr m (show k < l by omega)
        have a2 := dAt_pos hr h2
        exact ⟨(dAt r m k - dAt r m l - 1).toNat, List.mem_range.mpr (by omega), by omega⟩
    · rintro ⟨i, hi, rfl⟩
      rw [List.mem_range] at hi
      by_cases q : dAt r m k - ((i : Int) + 1) ∈ beadsM r m
      · obtain ⟨l, hl, e⟩ := (mem_beads hm).mp q
        right
        refine ⟨dAt r m l, mem_drop.mpr ⟨l, ?_, hl, rfl⟩, by omega⟩
        by_cases w : k < l
        · omega
        · by_cases w2 : l = k
          · rw [w2] at e; omega
          · have := dAt_gt hr m (show l < k by omega); omega
      · obtain ⟨j, e⟩ := free_is hr hm (by omega) q
        left
        have hj : (j : Int) < r.getD k 0 := by
          by_cases w : (j : Int) < r.getD k 0
          · exact w
          · have : ¬ k < linesAt r (j : Int) := fun u => w ((lines_iff hr j k).mp u)
            unfold dAt at e; omega
        have hkl : k < r.length := by
          by_cases w : k < r.length
          · exact w
          · rw [getD_ge (by omega)] at hj; omega
        refine List.mem_map.mpr ⟨j, List.mem_range.mpr (by omega), ?_⟩
        rw [hook_line hr (m := m) hkl hj]
        omega
def hookP (r : List Int) : Int := pI r.length fun k => prodL (hookLine r k)
theorem hookP_all {r : List Int} (hr : IsRow r) {m : Nat} (hm : r.length ≤ m) : hookP r * vd (topD r m) = pI m fun k => factI (dAt r m k).toNat := by
  have e : pI m (fun k => prodL (hookLine r k)) = hookP r := by
    have := pI_add (fun _ => 0) r.length (fun k => prodL (hookLine r k)) (m - r.length) fun i hi => by
      unfold hookLine
      rw [getD_ge hi]; rfl
    rw [show r.length + (m - r.length) = m by omega] at this
    exact this
  rw [← e, vd_pI, top_len, ← pI_mul]
  refine pI_congr fun k hk => ?_
  rw [top_at hk]
  exact line_all hr hm hk
theorem prodL_flat : ∀ L : List (List Int), prodL L.flatten = pI L.length fun k => prodL (L.getD k [])
  | [] => rfl
  | l :: L => by
    rw [List.flatten_cons, prodL_append, prodL_flat L]; rfl
theorem hookP_flat (r : List Int) : prodL (hooksM r).flatten = hookP r := by
  rw [prodL_flat, hooksM_len]
  exact pI_congr fun k hk => by rw [hooksM_at hk]

theorem pr_zero (x : Int) : ∀ {ys : List Int}, x ∈ ys → pr x ys = 0
  | y :: ys, h => by
    rcases List.mem_cons.mp h with e | e
    · show (x - y) * pr x ys = 0
      rw [e, Int.sub_self, Int.zero_mul]
    · show (x - y) * pr x ys = 0
      rw [pr_zero x e, Int.mul_zero]
theorem vd_zero : ∀ {D : List Int} {i : Nat} {v : Int}, v ∈ D.drop (i + 1) → vd (D.set i v) = 0
  | [], i, v, h => absurd h (by simp)
  | y :: ys, 0, v, h => by
    show pr v ys * vd ys = 0
    have h' : v ∈ ys := h
    rw [pr_zero v h', Int.zero_mul]
  | y :: ys, i + 1, v, h => by
    show pr y _ * vd (ys.set i v) = 0
    have h' : v ∈ ys.drop (i + 1) := h
    rw [vd_zero h', Int.mul_zero]
theorem pr_ne {x : Int} : ∀ {ys : List Int}, (∀ y ∈ ys, y < x) → 0 < pr x ys
  | [], _ => by show (0 : Int) < 1; decide
  | y :: ys, h => Int.mul_pos (by have := h y (List.mem_cons_self ..); omega) (pr_ne fun z hz => h z (List.mem_cons_of_mem _ hz))
theorem vd_pos : ∀ {D : List Int}, D.Pairwise (fun a b => b < a) → 0 < vd D
  | [], _ => by show (0 : Int) < 1; decide
  | y :: ys, h => by
    have h' := List.pairwise_cons.mp h
    exact Int.mul_pos (pr_ne h'.1) (vd_pos h'.2)
theorem top_pos {r : List Int} (hr : IsRow r) (m : Nat) : 0 < vd (topD r m) := by
  refine vd_pos (List.pairwise_map.mpr ?_)
  exact List.pairwise_lt_range.imp fun {i j} hij => dAt_gt hr m hij
theorem top_sum {r : List Int} (hr : IsRow r) {m : Nat} (hm : r.length ≤ m) : 2 * (topD r m).sum - (m : Int) * ((m : Int) - 1) = 2 * r.sum := by
  have e : (topD r m).sum = (beadsM r m).sum := by
    unfold topD
    rw [← beads_rev hm]
    exact perm_sum (List.reverse_perm _)
  have b := beads_up hr hm
  have s := rowOf_sum (up_rise b.1 b.2)
  rw [rowOf_beads (isRow_pos hr) hm, beads_len] at s
  rw [e]; omega
theorem rim_top {r : List Int} {k L : Nat} {j : Int} (C : Cut r k L j) (h : L = k + 1) (hj : j = r.getD k 0 - 1) (m : Nat) : topD (cutR r k L j) m = (topD r m).set k (dAt r m k - 1) := by
  refine List.ext_getElem (by rw [List.length_set, top_len, top_len]) fun i h1 h2 => ?_
  rw [top_len] at h1
  rw [List.getElem_set]
  rw [getD_elem (by rw [top_len]; exact h1), top_at h1, cut_at C]
  by_cases z : k = i
  · subst z
    rw [if_neg (by omega), if_neg (by omega), if_pos (by omega), if_pos rfl]
    unfold dAt; omega
  · rw [if_neg z, getD_elem (by rw [top_len]; exact h1), top_at h1]
    by_cases z1 : i < k
    · rw [if_pos z1]
    · rw [if_neg z1, if_neg (by omega), if_neg (by omega)]
def endAt (r : List Int) (k : Nat) : Prop := r.getD (k + 1) 0 < r.getD k 0
instance (r : List Int) (k : Nat) : Decidable (endAt r k) := by unfold endAt; infer_instance
def lessAt (r : List Int) (k : Nat) : List Int := cutR r k (k + 1) (r.getD k 0 - 1)
theorem end_cut {r : List Int} (hr : IsRow r) {k : Nat} (h : endAt r k) : Cut r k (k + 1) (r.getD k 0 - 1) := by
  unfold endAt at h
  have h0 := (row_all hr (k + 1)).1
  refine ⟨hr, by omega, by omega, ?_, fun l hl => ?_, by omega⟩
  · by_cases z : k < r.length
    · exact z
    · rw [getD_ge (l := k) (by omega)] at h; omega
  · have := row_mono hr (show l ≤ k by omega); omega
theorem less_row {r : List Int} (hr : IsRow r) {k : Nat} (h : endAt r k) : IsRow (lessAt r k) ∧ (lessAt r k).length ≤ r.length ∧ (lessAt r k).sum = r.sum - 1 := by
  have R := rim_cut (t := 1) (end_cut hr h) (by omega)
  exact ⟨R.row, R.len, R.sum⟩
def fillN : Nat → List Int → Int
  | 0, _ => 1
  | n + 1, r => if r.length = 0 then 1 else sI r.length fun k => if endAt r k then fillN n (lessAt r k) else 0
theorem hook_rec {r : List Int} (hr : IsRow r) {g : Nat → Int} (hg : ∀ k : Nat, k < r.length → endAt r k → g k * hookP (lessAt r k) = factI (r.sum.toNat - 1)) (hne : 0 < r.length) :
    (sI r.length fun k => if endAt r k then g k else 0) * hookP r = factI r.sum.toNat := by
  have hs := row_len hr
  obtain ⟨n, hn⟩ : ∃ n : Nat, r.sum.toNat = n + 1 := ⟨r.sum.toNat - 1, by omega⟩
  rw [hn, Nat.add_sub_cancel] at hg
  obtain ⟨m, hm⟩ : ∃ m : Nat, m = r.length := ⟨_, rfl⟩
  have vp := top_pos hr m
  have H := hookP_all hr (m := m) (by omega)
  have S := vd_sum (topD r m)
  rw [top_len, top_sum hr (by omega)] at S
  have S2 : (sI m fun i => (topD r m).getD i 0 * vd ((topD r m).set i ((topD r m).getD i 0 - 1))) = r.sum * vd (topD r m) := by
    have e : 2 * r.sum * vd (topD r m) = 2 * (r.sum * vd (topD r m)) := by rw [Int.mul_assoc]
    rw [e] at S
    omega
  have key : (sI m fun k => (if endAt r k then g k else 0) * (hookP r * vd (topD r m))) = sI m fun i => factI n * ((topD r m).getD i 0 * vd ((topD r m).set i ((topD r m).getD i 0 - 1))) := by
    refine sI_congr fun i hi => ?_
    rw [top_at hi]
    by_cases z : endAt r i
    · rw [if_pos z]
      have C := end_cut hr z
      have hl := less_row hr z
      have H2 := hookP_all hl.1 (m := m) (by omega)
      have et : topD (lessAt r i) m = (topD r m).set i (dAt r m i - 1) := rim_top C rfl rfl m
      rw [et] at H2
      have hg' := hg i (by omega) z
      rw [H]
      have hd : 1 ≤ dAt r m i := by have := (row_all hr (i + 1)).1; unfold endAt at z; unfold dAt; omega
      have hf : pI m (fun k => factI (dAt r m k).toNat) = dAt r m i * pI m fun k => factI (dAt (lessAt r i) m k).toNat := by
        have e1 : ∀ k : Nat, k < m → factI (dAt r m k).toNat = (if k = i then dAt r m i else 1) * factI (dAt (lessAt r i) m k).toNat := fun k hk => by
          have e2 : dAt (lessAt r i) m k = if k = i then dAt r m i - 1 else dAt r m k := by
            have : (topD (lessAt r i) m).getD k 0 = ((topD r m).set i (dAt r m i - 1)).getD k 0 := by rw [et]
            rw [top_at hk, List.getD_eq_getElem?_getD] at this
            rw [this]
            by_cases q : k = i
            · subst q
              rw [if_pos rfl, List.getElem?_set_self (by rw [top_len]; exact hk)]; rfl
            · rw [if_neg q, List.getElem?_set_ne (Ne.symm q), ← List.getD_eq_getElem?_getD, top_at hk]
          rw [e2]
          by_cases q : k = i
          · subst q
            rw [if_pos rfl, if_pos rfl]
            obtain ⟨w, hw⟩ : ∃ w : Nat, dAt r m k = (w : Int) + 1 := ⟨(dAt r m k - 1).toNat, by omega⟩
            rw [hw, show ((w : Int) + 1).toNat = w + 1 by omega, show ((w : Int) + 1 - 1).toNat = w by omega]
            show factI w * ((w : Int) + 1) = _
            grind
          · rw [if_neg q, if_neg q, Int.one_mul]
        rw [pI_congr e1, pI_mul]
        congr 1
        have : ∀ (m i : Nat) (c : Int), i < m → pI m (fun k => if k = i then c else 1) = c := fun m => by
          induction m with
          | zero => intro i c h; exact absurd h (Nat.not_lt_zero i)
          | succ m ih =>
            intro i c h
            show (if 0 = i then c else 1) * pI m (fun k => if k + 1 = i then c else 1) = c
            cases i with
            | zero =>
              rw [if_pos rfl]
              have : pI m (fun k => if k + 1 = 0 then c else 1) = 1 := by
                rw [pI_congr (g := fun _ => 1) fun k _ => if_neg (by omega)]
                clear ih
                induction m with
                | zero => rfl
                | succ m ih => show 1 * pI m _ = 1; rw [ih (by omega)]; rfl
              rw [this, Int.mul_one]
            | succ i =>
              rw [if_neg (by omega), Int.one_mul]
              have e : pI m (fun k => if k + 1 = i + 1 then c else 1) = pI m (fun k => if k = i then c else 1) := pI_congr fun k _ => by
                by_cases q : k = i
                · rw [if_pos q, if_pos (by omega)]
                · rw [if_neg q, if_neg (by omega)]
              rw [e]
              exact ih i c (by omega)
        exact this m i _ hi
      rw [hf, ← H2, ← hg']
      grind
    · rw [if_neg z, Int.zero_mul]
      have : dAt r m i * vd ((topD r m).set i (dAt r m i - 1)) = 0 := by
        unfold endAt at z
        have h2 := (row_all hr i).2
        by_cases q : i + 1 < m
        · rw [vd_zero (mem_drop.mpr ⟨i + 1, Nat.le_refl _, q, by unfold dAt; omega⟩), Int.mul_zero]
        · have hl := isRow_pos hr (r.getD i 0) (by rw [← getD_elem (show i < r.length by omega)]; exact List.getElem_mem _)
          rw [getD_ge (l := i + 1) (by omega)] at z
          omega
      rw [this, Int.mul_zero]
  rw [sI_mul, S2] at key
  have key2 : (sI m fun k => (if endAt r k then g k else 0) * (hookP r * vd (topD r m))) = (sI m fun k => if endAt r k then g k else 0) * (hookP r * vd (topD r m)) := by
    have : (fun k : Nat => (if endAt r k then g k else 0) * (hookP r * vd (topD r m))) = fun k : Nat => (hookP r * vd (topD r m)) * (if endAt r k then g k else 0) := by
      funext k; exact Int.mul_comm _ _
    rw [this, sI_mul, Int.mul_comm]
  rw [key2] at key
  rw [← hm]
  refine Int.eq_of_mul_eq_mul_right (Int.ne_of_gt vp) ?_
  rw [Int.mul_assoc, key, hn]
  show factI n * (r.sum * vd (topD r m)) = factI n * ((n : Int) + 1) * vd (topD r m)
  have : r.sum = (n : Int) + 1 := by omega
  rw [this]; grind
theorem fill_hook : ∀ (n : Nat) {r : List Int}, IsRow r → r.sum ≤ (n : Int) → fillN n r * hookP r = factI r.sum.toNat
  | 0, r, hr, h => by
    have := row_len hr
    have e : r = [] := List.length_eq_zero_iff.mp (by omega)
    rw [e]; rfl
  | n + 1, r, hr, h => by
    show (if r.length = 0 then 1 else _) * _ = _
    by_cases z : r.length = 0
    · rw [if_pos z, List.length_eq_zero_iff.mp z]; rfl
    · rw [if_neg z]
      refine hook_rec hr (g := fun k => fillN n (lessAt r k)) (fun k hk he => ?_) (by omega)
      have hl := less_row hr he
      rw [fill_hook n hl.1 (by omega), hl.2.2]
      congr 1
      omega

theorem hookP_pos {r : List Int} (hr : IsRow r) : 0 < hookP r := by
  have h := hookP_all hr (Nat.le_refl _)
  have v := top_pos hr r.length
  have p : 0 < pI r.length fun k => factI (dAt r r.length k).toNat := pI_pos fun i _ => fact_pos _
  rw [← h] at p
  by_cases z : 0 < hookP r
  · exact z
  · have := Int.mul_le_mul_of_nonneg_right (show hookP r ≤ 0 by omega) (show 0 ≤ vd (topD r r.length) by omega)
    omega
def fillM (r : List Int) : Int := factI r.sum.toNat / hookP r
theorem fill_eq {r : List Int} (hr : IsRow r) : fillM r * hookP r = factI r.sum.toNat := by
  have h0 := (row_head hr)
  have h := fill_hook r.sum.toNat hr (by omega)
  have p := hookP_pos hr
  unfold fillM
  rw [← h, Int.mul_ediv_cancel _ (by omega)]
theorem fill_rec {r : List Int} (hr : IsRow r) (hne : 0 < r.length) : (sI r.length fun k => if endAt r k then fillM (lessAt r k) else 0) = fillM r := by
  have h := hook_rec hr (g := fun k => fillM (lessAt r k)) (fun k hk he => by
    have hl := less_row hr he
    rw [fill_eq hl.1, hl.2.2]
    congr 1
    omega) hne
  have p := hookP_pos hr
  rw [← fill_eq hr] at h
  exact Int.eq_of_mul_eq_mul_right (by omega) h
def canMv (S : List Int) (t x : Int) : Prop := 0 ≤ x - t ∧ x - t ∉ S
instance (S : List Int) (t x : Int) : Decidable (canMv S t x) := by unfold canMv; infer_instance
theorem fact_small : ∀ n : Nat, n < 61 → factI n < 2 ^ 273 := by decide +kernel
theorem prodL_snoc (l : List Int) (x : Int) : prodL (l ++ [x]) = prodL l * x := by
  rw [prodL_append]; show prodL l * (x * 1) = prodL l * x; rw [Int.mul_one]
theorem fill_bd {r : List Int} (hr : IsRow r) (h : r.sum ≤ 60) : 0 < fillM r ∧ fillM r < 2 ^ 273 ∧ 0 < hookP r ∧ hookP r < 2 ^ 273 := by
  have e := fill_eq hr
  have p := hookP_pos hr
  have f0 := fact_pos r.sum.toNat
  have f1 := fact_small r.sum.toNat (by omega)
  rw [← e] at f0 f1
  have p1 : 0 < fillM r := by
    by_cases z : 0 < fillM r
    · exact z
    · have := Int.mul_le_mul_of_nonneg_right (show fillM r ≤ 0 by omega) (show 0 ≤ hookP r by omega)
      omega
  have a := Int.mul_le_mul_of_nonneg_left (show 1 ≤ hookP r by omega) (show 0 ≤ fillM r by omega)
  have b := Int.mul_le_mul_of_nonneg_right (show 1 ≤ fillM r by omega) (show 0 ≤ hookP r by omega)
  rw [Int.mul_one] at a
  rw [Int.one_mul] at b
  exact ⟨p1, Int.lt_of_le_of_lt a f1, p, Int.lt_of_le_of_lt b f1⟩
theorem abs_lt {x : Int} {k : Nat} (h0 : 0 ≤ x) (h : x < 2 ^ k) : x.natAbs < 2 ^ k := by
  have e : ((2 ^ k : Nat) : Int) = (2 : Int) ^ k := by rw [Int.natCast_pow]; rfl
  rw [← e] at h
  omega
theorem pow_le2 {n a b : Nat} (h : n < 2 ^ a) (hab : a ≤ b) : n < 2 ^ b := Nat.lt_of_lt_of_le h (Nat.pow_le_pow_right (by decide) hab)
def spProd : Sp := fun vs H Q _ => ∃ n : Int, vs = [.int n] ∧ 0 ≤ n ∧ n ≤ 1000 ∧ Q (.int (factI n.toNat)) H
def spFill (K : PySem.W.Frag) : Sp := fun vs H Q _ => ∃ (a : Addr) (r : List Int), vs = [.ref a] ∧ SqL K H a (r.map V.int) ∧ IsRow r ∧ r.sum ≤ 60 ∧ ∀ H' : Hp, Same H H' → Q (.int (fillM r)) H'
def chM (m : Int) : Nat → Int
  | 0 => 1
  | i + 1 => chM m i * (m - (i : Int)) / ((i : Int) + 1)
theorem ch_bd : ∀ m : Nat, m < 61 → ∀ i : Nat, i < 31 → 0 ≤ chM (m : Int) i ∧ chM (m : Int) i < 2 ^ 60 := by decide +kernel
theorem line_col : ∀ a : Nat, a < 30 → ∀ b : Nat, b < a + 2 → fillM (((a : Int) + 1) :: List.replicate b 1) = chM (((a : Int) + 1) + (b : Int) - 1) b := by decide +kernel
theorem two_lines : ∀ a : Nat, a < 30 → ∀ b : Nat, b < a + 1 → fillM [(a : Int) + 1, (b : Int) + 1] = chM (((a : Int) + 1) + ((b : Int) + 1)) (b + 1) - chM (((a : Int) + 1) + ((b : Int) + 1)) b := by decide +kernel
theorem one_line : ∀ a : Nat, a < 30 → fillM [(a : Int) + 1] = 1 := by decide +kernel

def keyOf (r : List Int) : List Key := r.map Sum.inl
theorem keyOf_inj : ∀ {a b : List Int}, keyOf a = keyOf b → a = b
  | [], [], _ => rfl
  | [], y :: b, h => by cases h
  | x :: a, [], h => by cases h
  | x :: a, y :: b, h => by
    have h' : (Sum.inl x : Key) :: keyOf a = Sum.inl y :: keyOf b := h
    injection h' with h1 h2
    rw [Sum.inl.inj h1, keyOf_inj h2]
theorem keyOf_kV (r : List Int) : (keyOf r).map kV = r.map V.int := by
  unfold keyOf
  rw [List.map_map]
  rfl
def rowsA : Nat → Nat → Nat → List (List Int)
  | 0, _, _ => [[]]
  | f + 1, m, most => [] :: (List.range most).flatMap fun x => if x + 1 ≤ m then (rowsA f (m - (x + 1)) (x + 1)).map fun l => ((x + 1 : Nat) : Int) :: l else []
theorem rowsA_few : (rowsA 16 16 16).length ≤ 1000 := by decide +kernel
theorem rowsA_mem : ∀ {f m most : Nat} {r : List Int}, IsRow r → r.length ≤ f → r.sum ≤ (m : Int) → (∀ x ∈ r, x ≤ (most : Int)) → r ∈ rowsA f m most
  | 0, m, most, r, _, hl, _, _ => by
    rw [List.length_eq_zero_iff.mp (by omega : r.length = 0)]
    exact List.mem_cons_self ..
  | f + 1, m, most, [], _, _, _, _ => List.mem_cons_self ..
  | f + 1, m, most, x :: l, hr, hl, hs, hm => by
    have h2 := isRow_iff.mp hr
    have hp := List.pairwise_cons.mp h2.2
    have hx := h2.1 x (List.mem_cons_self ..)
    have hrl : IsRow l := isRow_iff.mpr ⟨fun y hy => h2.1 y (List.mem_cons_of_mem _ hy), hp.2⟩
    have h0 := row_head hrl
    have hxm := hm x (List.mem_cons_self ..)
    rw [List.sum_cons] at hs
    rw [List.length_cons] at hl
    refine List.mem_cons_of_mem _ (List.mem_flatMap.mpr ⟨x.toNat - 1, List.mem_range.mpr (by omega), ?_⟩)
    rw [if_pos (by omega)]
    refine List.mem_map.mpr ⟨l, rowsA_mem hrl (by omega) (by omega) (fun y hy => by have := hp.1 y hy; omega), ?_⟩
    congr 1
    omega
theorem nodup_len {α : Type} [DecidableEq α] : ∀ {l m : List α}, l.Nodup → (∀ x ∈ l, x ∈ m) → l.length ≤ m.length
  | [], _, _, _ => Nat.zero_le _
  | x :: l, m, h, hm => by
    have h' := List.nodup_cons.mp h
    have ih := nodup_len (l := l) (m := m.erase x) h'.2 fun y hy => (List.mem_erase_of_ne (fun e => h'.1 (by rw [← e]; exact hy))).mpr (hm y (List.mem_cons_of_mem _ hy))
    rw [List.length_erase_of_mem (hm x (List.mem_cons_self ..))] at ih
    have := List.length_pos_of_mem (hm x (List.mem_cons_self ..))
    rw [List.length_cons]
    omega
structure Tab (kvs : List (List Key × V)) : Prop where
  nd : (kvs.map (·.1)).Nodup
  key : ∀ k ∈ kvs.map (·.1), ∃ r : List Int, k = keyOf r ∧ IsRow r ∧ r.sum ≤ 16
  val : ∀ (r : List Int) (v : V), valV kvs (keyOf r) = some v → v = .int (fillM r)
  nil : valV kvs (keyOf []) = some (.int 1)
theorem Tab.few {kvs : List (List Key × V)} (T : Tab kvs) : kvs.length ≤ 1000 := by
  have h := nodup_len (m := (rowsA 16 16 16).map keyOf) T.nd fun k hk => by
    obtain ⟨r, rfl, hr, hs⟩ := T.key k hk
    have hl := row_len hr
    have hx := (row_sum hr).2
    exact List.mem_map.mpr ⟨r, rowsA_mem hr (by omega) (by omega) (fun x hx' => by have := hx x hx'; omega), rfl⟩
  rw [List.length_map, List.length_map] at h
  have := rowsA_few
  omega
theorem keys_put (kvs : List (List Key × V)) (k : List Key) (v : V) : (putK kvs k v).map (·.1) = if (valV kvs k).isSome = true then kvs.map (·.1) else kvs.map (·.1) ++ [k] := by
  unfold putK
  rw [valV_any]
  by_cases z : (valV kvs k).isSome = true
  · rw [if_pos z, if_pos z, List.map_map]
    refine List.map_congr_left fun kv _ => ?_
    show (if kv.1 = k then (kv.1, v) else kv).1 = kv.1
    split <;> rfl
  · rw [if_neg z, if_neg z, List.map_append]
    rfl
theorem fill_nil : fillM [] = 1 := by decide
theorem Tab.put {kvs : List (List Key × V)} (T : Tab kvs) {r : List Int} (hr : IsRow r) (hs : r.sum ≤ 16) : Tab (putK kvs (keyOf r) (.int (fillM r))) := by
  refine ⟨?_, fun k hk => ?_, fun r' v hv => ?_, ?_⟩
  · rw [keys_put]
    split
    · exact T.nd
    · next z =>
      have hn : valV kvs (keyOf r) = none := by
        cases h : valV kvs (keyOf r) with
        | none => rfl
        | some x => rw [h] at z; exact absurd rfl z
      have := valV_not hn
      rw [List.nodup_append]
      exact ⟨T.nd, by simp, fun a ha b hb e => this (by rw [← List.mem_singleton.mp hb, ← e]; exact ha)⟩
  · rw [keys_put] at hk
    split at hk
    · exact T.key k hk
    · rcases List.mem_append.mp hk with z | z
      · exact T.key k z
      · exact ⟨r, List.mem_singleton.mp z, hr, hs⟩
  · rw [valV_put] at hv
    split at hv
    · next e => rw [keyOf_inj e]; exact (Option.some.inj hv).symm
    · exact T.val r' v hv
  · rw [valV_put]
    split
    · next e => rw [← keyOf_inj e, fill_nil]
    · exact T.nil
theorem Tab.one : Tab (putK [] (keyOf []) (.int 1)) := by
  have e : putK ([] : List (List Key × V)) (keyOf []) (.int 1) = [(keyOf [], .int 1)] := rfl
  rw [e]
  refine ⟨by simp, fun k hk => ⟨[], by simpa using hk, isRow_nil, by decide⟩, fun r v hv => ?_, valV_pos rfl⟩
  by_cases z : keyOf [] = keyOf r
  · rw [valV_pos z] at hv
    rw [← keyOf_inj z, fill_nil]
    exact (Option.some.inj hv).symm
  · rw [valV_neg z] at hv
    cases hv
def SameX (d : Addr) (H H' : Hp) : Prop := ∀ b u, b ≠ d → H b = some u → H' b = some u
theorem SameX.trans {d : Addr} {H H1 H2 : Hp} (a : SameX d H H1) (b : SameX d H1 H2) : SameX d H H2 := fun c u n h => b c u n (a c u n h)
theorem toX {d : Addr} {H H' : Hp} (h : Same H H') : SameX d H H' := fun b u _ z => h b u z
theorem SameX.put {d : Addr} {H H' : Hp} {o : HO} (h : SameX d H H') : SameX d H (upd H' d o) := fun b u n z => by rw [upd_ne n]; exact h b u n z
theorem sI_snoc (n : Nat) (f : Nat → Int) : sI (n + 1) f = sI n f + f n := by
  unfold sI
  rw [List.range_succ, List.map_append, List.sum_append]
  simp
def spCounted (K : PySem.W.Frag) (f : Nat) : Sp := fun vs H Q _ => ∃ (a d : Addr) (r : List Int) (kvs : List (List Key × V)), vs = [.ref a, .ref d] ∧ H a = some (.lst (r.map V.int)) ∧ IsRow r ∧ r.sum ≤ 16 ∧ r.sum < (f : Int) ∧ H d = some (.dT kvs) ∧ Tab kvs ∧
  ∀ (H' : Hp) (kvs' : List (List Key × V)), SameX d H H' → H' d = some (.dT kvs') → Tab kvs' → Q (.int (fillM r)) H'
def spChoices : Sp := fun vs H Q _ => ∃ m s : Int, vs = [.int m, .int s] ∧ 0 ≤ m ∧ m ≤ 60 ∧ 0 ≤ s ∧ s ≤ 30 ∧ Q (.int (chM m s.toNat)) H
theorem less_is {r : List Int} (i : Nat) : lessAt r i = (r.take i ++ [r.getD i 0 - 1] ++ r.drop (i + 1)).filter fun n => decide (0 < n) := by
  unfold lessAt cutR mvM
  rw [Nat.sub_self, List.take_zero, List.map_nil, List.append_nil]

structure Tx (K : PySem.W.Frag) (mg : Str → Option Value) (f_turned : Addr) (d_turned : FuncData) (f_lines_at : Addr) (d_lines_at : FuncData) (f_hooks : Addr) (d_hooks : FuncData) (f_line_hooks : Addr) (d_line_hooks : FuncData) (f_fillings : Addr) (d_fillings : FuncData) (f_product_to : Addr) (d_product_to : FuncData) (f_ldrawn : Addr) (d_ldrawn : FuncData) (f_lwhole : Addr) (d_lwhole : FuncData) (f_lrow_by : Addr) (d_lrow_by : FuncData) (f_lcounted : Addr) (d_lcounted : FuncData) (f_lchoices : Addr) (d_lchoices : FuncData) : Prop where
  F_turned : Fun K "turned" "turned" s_turned f_turned d_turned
  m_turned : mg "turned" = some (.ref f_turned)
  b_turned : Binds K d_turned ["row"] []
  F_lines_at : Fun K "lines_at" "lines_at" s_lines_at f_lines_at d_lines_at
  m_lines_at : mg "lines_at" = some (.ref f_lines_at)
  b_lines_at : Binds K d_lines_at ["row", "place"] []
  F_hooks : Fun K "hooks" "hooks" s_hooks f_hooks d_hooks
  m_hooks : mg "hooks" = some (.ref f_hooks)
  b_hooks : Binds K d_hooks ["row"] []
  F_line_hooks : Fun K "line_hooks" "line_hooks" s_line_hooks f_line_hooks d_line_hooks
  m_line_hooks : mg "line_hooks" = some (.ref f_line_hooks)
  b_line_hooks : Binds K d_line_hooks ["row", "columns", "line"] []
  F_fillings : Fun K "fillings" "fillings" s_fillings f_fillings d_fillings
  m_fillings : mg "fillings" = some (.ref f_fillings)
  b_fillings : Binds K d_fillings ["row"] []
  F_product_to : Fun K "product_to" "product_to" s_product_to f_product_to d_product_to
  m_product_to : mg "product_to" = some (.ref f_product_to)
  b_product_to : Binds K d_product_to ["number"] []
  F_ldrawn : Fun K "_law_drawn" "_law_drawn" s_ldrawn f_ldrawn d_ldrawn
  m_ldrawn : mg "_law_drawn" = some (.ref f_ldrawn)
  b_ldrawn : Binds K d_ldrawn ["script", "k", "many"] []
  F_lwhole : Fun K "_law_whole" "_law_whole" s_lwhole f_lwhole d_lwhole
  m_lwhole : mg "_law_whole" = some (.ref f_lwhole)
  b_lwhole : Binds K d_lwhole ["found"] []
  F_lrow_by : Fun K "_law_row_by" "_law_row_by" s_lrow_by f_lrow_by d_lrow_by
  m_lrow_by : mg "_law_row_by" = some (.ref f_lrow_by)
  b_lrow_by : Binds K d_lrow_by ["script", "base", "most"] []
  F_lcounted : Fun K "_law_counted" "_law_counted" s_lcounted f_lcounted d_lcounted
  m_lcounted : mg "_law_counted" = some (.ref f_lcounted)
  b_lcounted : Binds K d_lcounted ["row", "table"] []
  F_lchoices : Fun K "_law_choices" "_law_choices" s_lchoices f_lchoices d_lchoices
  m_lchoices : mg "_law_choices" = some (.ref f_lchoices)
  b_lchoices : Binds K d_lchoices ["many", "some"] []
  z_bool : mg "bool" = none
  z_int : mg "int" = none
  z_isinstance : mg "isinstance" = none
  z_len : mg "len" = none
  z_list : mg "list" = none
  z_max : mg "max" = none
  z_min : mg "min" = none
  z_range : mg "range" = none
  z_sum : mg "sum" = none
  z_tuple : mg "tuple" = none
section
variable {P : Program} {w : World} {K : PySem.W.Frag} {mg : Str → Option Value} {base : Heap} {f_turned f_lines_at f_hooks f_line_hooks f_fillings f_product_to f_ldrawn f_lwhole f_lrow_by f_lcounted f_lchoices : Addr} {d_turned d_lines_at d_hooks d_line_hooks d_fillings d_product_to d_ldrawn d_lwhole d_lrow_by d_lcounted d_lchoices : FuncData}
theorem ok_ldrawn (T : Tx K mg f_turned d_turned f_lines_at d_lines_at f_hooks d_hooks f_line_hooks d_line_hooks f_fillings d_fillings f_product_to d_product_to f_ldrawn d_ldrawn f_lwhole d_lwhole f_lrow_by d_lrow_by f_lcounted d_lcounted f_lchoices d_lchoices) : FnOk P w K mg base CX0 1 f_ldrawn d_ldrawn ["script", "k", "many"] (spDrawn K) := by
  refine T.F_ldrawn.ok sc_ldrawn (fun vs H Q E h => ?_) (fun cdv A outer s H vs Q E hr h => ?_)
  · obtain ⟨a, ns, k, m, rfl, _⟩ := h
    rfl
  obtain ⟨a, ns, k, m, rfl, hS, h63, h0, h1, hm, q⟩ := h
  refine ⟨_, (pss_cons (ps_set (i := 3) sc_ldrawn.nd rfl (Or.inl rfl) pe_int)
      (pss_cons (ps_mid (ps_if (pt_cmpR op_gt (pe_callB call_len_seq rfl T.z_len PySem.boot_len (pa_cons (pv 0) pa_nil)) pe_int (nomark _)) (pss_one (ps_set (i := 3) sc_ldrawn.nd rfl (Or.inl rfl) (pe_ix ix_list (pv 0) (pe_op op_mod (pv 1) (pe_callB call_len_seq rfl T.z_len PySem.boot_len (pa_cons (pv 0) pa_nil))) (fun _ _ => rfl)))) pss_nil))
      (pss_cons (ps_set (i := 4) sc_ldrawn.nd rfl (Or.inl rfl) (pe_op op_add (pe_op op_add (pe_op op_mul (pv 3) (pe_op op_add pe_int (pe_op op_mul pe_int (pe_op op_mod (pv 1) pe_int)))) (pe_op op_mul (pe_op op_mul (pe_op op_add (pv 1) pe_int) (pe_op op_add (pv 1) pe_int)) pe_int)) (pe_callB call_len_seq rfl T.z_len PySem.boot_len (pa_cons (pv 0) pa_nil))))
      (pss_one (ps_ret (pe_op op_mod (pe_op op_fdiv (pe_op op_mod (pv 4) pe_int) pe_int) (pv 2))))))), ?_⟩
  have hl : (ns.map V.int).length = ns.length := List.length_map _
  have fin : ∀ z : Int, Q (.int (z % 2147483647 / 16 % m)) H := fun z => q _ (Int.emod_nonneg _ (by omega)) (Int.emod_lt_of_pos _ hm)
  have k97 : 0 ≤ k % 97 ∧ k % 97 < 97 := ⟨Int.emod_nonneg _ (by decide), Int.emod_lt_of_pos _ (by decide)⟩
  refine ⟨fun σ H' => ∃ c : Int, σ = [some (.ref a), some (.int k), some (.int m), some (.int c), none] ∧ H' = H, ?_, ?_⟩
  · refine ⟨_, rfl, a, _, rfl, .inl hS, _, _, rfl, rfl, _, rfl, ?_⟩
    refine ite2 (fun c => ?_) (fun c => ?_)
    · have c' : (0 : Int) < (((ns.map V.int).length : Nat) : Int) := of_decide_eq_true c
      have c2 : (0 : Int) < (ns.length : Int) := by rw [hl] at c'; exact c'
      have hv := at_int (ns := ns) (i := k % (((ns.map V.int).length : Nat) : Int)) (Int.emod_nonneg _ (by omega)) (by rw [hl]; exact Int.emod_lt_of_pos _ c2)
      exact ⟨_, rfl, _, rfl, _, rfl, a, _, rfl, .inl hS, _, _, rfl, rfl, c', a, _, _, _, rfl, rfl, hS, hv, _, rfl, rfl⟩
    · exact ⟨7, rfl, rfl⟩
  · rintro σ H' ⟨c, rfl, rfl⟩
    refine ⟨_, rfl, _, rfl, _, _, rfl, rfl, (by show (0 : Int) < 97; decide), _, _, rfl, rfl, .inl ⟨by decide, by decide⟩, _, _, rfl, rfl, _, _, rfl, rfl, .inr ⟨by omega, by omega⟩, _, rfl, _, _, rfl, rfl, _, rfl, _, _, rfl, rfl, _, _, rfl, rfl, .inl ⟨by omega, by omega⟩, _, _, rfl, rfl, .inr ⟨by decide, by decide⟩, _, _, rfl, rfl, _, rfl, a, _, rfl, .inl hS, _, _, rfl, rfl, ?_⟩
    exact ⟨_, rfl, _, _, rfl, rfl, (by show (0 : Int) < 2147483647; decide), _, _, rfl, rfl, ⟨by decide, by decide⟩, _, rfl, _, _, rfl, rfl, hm, fin _⟩


theorem ok_lrow_by (T : Tx K mg f_turned d_turned f_lines_at d_lines_at f_hooks d_hooks f_line_hooks d_line_hooks f_fillings d_fillings f_product_to d_product_to f_ldrawn d_ldrawn f_lwhole d_lwhole f_lrow_by d_lrow_by f_lcounted d_lcounted f_lchoices d_lchoices) : FnOk P w K mg base CX0 2 f_lrow_by d_lrow_by ["script", "base", "most"] (spRowBy K) := by
  have G_ldrawn : FnOk P w K mg base CX0 1 f_ldrawn d_ldrawn ["script", "k", "many"] (spDrawn K) := ok_ldrawn T
  refine T.F_lrow_by.ok sc_lrow_by (fun vs H Q E h => ?_) (fun cdv A outer s H vs Q E hr h => ?_)
  · obtain ⟨a, ns, k, m, rfl, _⟩ := h
    rfl
  obtain ⟨a, ns, k, m, rfl, hS, h63, h0, h1, hm, hm6, q⟩ := h
  refine ⟨_, (pss_cons (ps_set (i := 3) sc_lrow_by.nd rfl (Or.inl rfl) (pe_call G_ldrawn (hr.mono (by decide)) rfl T.m_ldrawn T.F_ldrawn.kp T.b_ldrawn .nil pass0 (pa_cons (pv 0) (pa_cons (pv 1) (pa_cons (pe_op op_add (pv 2) pe_int) pa_nil)))))
      (pss_cons (ps_set (i := 4) sc_lrow_by.nd rfl (Or.inl rfl) (pe_lst pa_nil))
      (pss_cons (ps_set (i := 5) sc_lrow_by.nd rfl (Or.inl rfl) (pe_op op_add pe_int (pe_call G_ldrawn (hr.mono (by decide)) rfl T.m_ldrawn T.F_ldrawn.kp T.b_ldrawn .nil pass0 (pa_cons (pv 0) (pa_cons (pe_op op_add (pv 1) pe_int) (pa_cons (pv 2) pa_nil))))))
      (pss_cons (ps_while PassesOwn.never (pt_cmpR op_gt (pv 3) pe_int (nomark _)) (pss_cons (ps_set (i := 6) sc_lrow_by.nd rfl (Or.inl rfl) (pe_ix ix_list (pe_lst (pa_cons pe_int (pa_cons pe_int (pa_cons pe_int (pa_cons (pe_op op_add pe_int (pv 5)) pa_nil))))) (pe_call G_ldrawn (hr.mono (by decide)) rfl T.m_ldrawn T.F_ldrawn.kp T.b_ldrawn .nil pass0 (pa_cons (pv 0) (pa_cons (pe_op op_add (pv 1) pe_int) (pa_cons pe_int pa_nil)))) (fun _ _ => rfl)))
      (pss_cons (ps_set (i := 7) sc_lrow_by.nd rfl (Or.inl rfl) (pe_op op_mul (pe_call G_ldrawn (hr.mono (by decide)) rfl T.m_ldrawn T.F_ldrawn.kp T.b_ldrawn .nil pass0 (pa_cons (pv 0) (pa_cons (pe_op op_add (pe_op op_add (pv 1) pe_int) (pe_callB call_len_seq rfl T.z_len PySem.boot_len (pa_cons (pv 4) pa_nil))) (pa_cons (pv 6) pa_nil)))) (pe_call G_ldrawn (hr.mono (by decide)) rfl T.m_ldrawn T.F_ldrawn.kp T.b_ldrawn .nil pass0 (pa_cons (pv 0) (pa_cons (pe_op op_add (pv 1) pe_int) (pa_cons pe_int pa_nil))))))
      (pss_cons (ps_set (i := 5) sc_lrow_by.nd rfl (Or.inl rfl) (pe_callB (call_min2 rfl) rfl T.z_min boot_min (pa_cons (pv 3) (pa_cons (pe_op op_sub (pv 5) (pv 7)) pa_nil))))
      (pss_cons (ps_set (i := 5) sc_lrow_by.nd rfl (Or.inl rfl) (pe_callB (call_max2 rfl) rfl T.z_max boot_max (pa_cons pe_int (pa_cons (pv 5) pa_nil))))
      (pss_cons (ps_expr (pe_bm PySem.F.plainAttrs_list PySem.F.slot_list_append PySem.F.type_list_append mt_append (pv 4) (pa_cons (pv 5) pa_nil)))
      (pss_one (ps_set (i := 3) sc_lrow_by.nd rfl (Or.inl rfl) (pe_op op_sub (pv 3) (pv 5))))))))))
      (pss_one (ps_ret (pv 4))))))), ?_⟩
  refine ⟨_, rfl, _, rfl, _, rfl, _, _, rfl, rfl, a, ns, k, m + 1, rfl, hS, h63, h0, by omega, by omega, fun left l0 l1 => ?_⟩
  refine ⟨(by show 0 ≤ sizeLine; decide), fun p hp => ?_⟩
  have s1 : Same H (upd H p (.lst [])) := same_new hp _
  refine ⟨_, rfl, _, rfl, _, _, rfl, rfl, _, rfl, a, ns, k + 1, m, rfl, s1.seq hS, h63, by omega, by omega, hm, fun g g0 g1 => ?_⟩
  refine ⟨_, _, rfl, rfl, ?_⟩
  refine ⟨fun n σ H2 => ∃ (left g : Int) (r : List Int) (bb st : Option V), σ = [some (.ref a), some (.int k), some (.int m), some (.int left), some (.ref p), some (.int g), bb, st] ∧ (n : Int) = left ∧ Same H H2 ∧ H2 p = some (.lst (r.map V.int)) ∧
    1 ≤ g ∧ g ≤ 61 ∧ IsRow r ∧ (r = [] ∨ g ≤ r.getD (r.length - 1) 0) ∧ r.sum + left ≤ m, ⟨left.toNat, left, 1 + g, [], none, none, rfl, by omega, s1, upd_same, by omega, by omega, isRow_nil, .inl rfl, by rw [List.sum_nil]; omega⟩, ?_⟩
  rintro n σ H2 ⟨left, g, r, bb, st, rfl, hn, s2, hp2, hg1, hg2, hrow, hlast, hsum⟩
  have hlen := row_len hrow
  have hrl : (r.map V.int).length = r.length := List.length_map _
  refine ⟨_, rfl, _, _, rfl, rfl, _, rfl, ?_⟩
  refine ite2 (fun c => ?_) (fun c => ?_)
  · have c' : (0 : Int) < left := of_decide_eq_true c
    refine ⟨_, fun _ _ z => z, ?_⟩
    refine ⟨_, rfl, _, _, rfl, rfl, (by show 4 ≤ sizeLine; decide), fun l hl => ?_⟩
    have s3 : Same H (upd H2 l (.lst [.int 3, .int 3, .int 12, .int (1 + g)])) := s2.trans (same_new hl _)
    refine ⟨_, rfl, _, rfl, _, _, rfl, rfl, a, ns, k + 71, 4, rfl, s3.seq hS, h63, by omega, by omega, by decide, fun d d0 d1 => ?_⟩
    obtain ⟨v, hv, hv1⟩ : ∃ v : Int, atI [V.int 3, .int 3, .int 12, .int (1 + g)] d = some (.int v) ∧ 1 ≤ v := by
      have hd : d = 0 ∨ d = 1 ∨ d = 2 ∨ d = 3 := by omega
      rcases hd with rfl | rfl | rfl | rfl
      · exact ⟨3, rfl, by decide⟩
      · exact ⟨3, rfl, by decide⟩
      · exact ⟨12, rfl, by decide⟩
      · exact ⟨1 + g, rfl, by omega⟩
    have hpl : p ≠ l := ne_of_none hp2 hl
    have hp3 : (upd H2 l (.lst [.int 3, .int 3, .int 12, .int (1 + g)])) p = some (.lst (r.map V.int)) := by rw [upd_ne hpl]; exact hp2
    refine ⟨l, _, d, _, rfl, rfl, SqL.of upd_same, hv, ?_⟩
    refine ⟨_, rfl, _, rfl, _, _, rfl, rfl, _, rfl, p, _, rfl, .inl (SqL.of hp3), _, _, rfl, rfl, _, rfl, a, ns, k + 2 + ((r.map V.int).length : Nat), v, rfl, s3.seq hS, h63, by omega, by omega, by omega, fun e e0 e1 => ?_⟩
    refine ⟨_, rfl, _, rfl, _, _, rfl, rfl, a, ns, k + 70, 2, rfl, s3.seq hS, h63, by omega, by omega, by decide, fun f f0 f1 => ?_⟩
    refine ⟨_, _, rfl, rfl, .inr ⟨by omega, by omega⟩, ?_⟩
    have hef : 0 ≤ e * f := Int.mul_nonneg e0 f0
    refine ⟨_, rfl, _, rfl, _, rfl, _, _, rfl, rfl, _, _, rfl, ?_⟩
    refine ⟨_, rfl, _, _, rfl, ?_⟩
    obtain ⟨G, hG⟩ : ∃ G : Int, G = (if (if g - e * f < left then g - e * f else left) > 1 then (if g - e * f < left then g - e * f else left) else 1) := ⟨_, rfl⟩
    have hG1 : 1 ≤ G ∧ G ≤ g ∧ G ≤ left := by
      rw [hG]
      split
      · split <;> omega
      · omega
    rw [← hG]
    refine ⟨_, rfl, .inl ⟨rfl, _, SqL.of hp3⟩, _, rfl, p, _, _, rfl, rfl, hp3, ?_, ?_⟩
    · exact small1000 (by omega)
    refine ⟨_, rfl, _, rfl, _, _, rfl, rfl, ?_⟩
    refine ⟨(left - G).toNat, by omega, left - G, G, r ++ [G], _, _, rfl, by omega, ?_, ?_, by omega, by omega, isRow_snoc hrow hG1.1 ?_, ?_, ?_⟩
    · intro b o ho
      rw [upd_ne (ne_of_none ho hp)]
      exact s3 b o ho
    · rw [upd_same, List.map_append]
      rfl
    · rcases hlast with z | z
      · exact .inl z
      · exact .inr (by omega)
    · right
      have e1 : (r ++ [G]).length - 1 = r.length := by rw [List.length_append]; rfl
      rw [e1, getD_app_last]
      exact Int.le_refl _
    · rw [sum_snoc]; omega
  · have c' : ¬ (0 : Int) < left := of_decide_eq_false (Bool.eq_false_iff.mpr c)
    exact ⟨_, rfl, q p r H2 s2 hp hrow (by omega) (by omega) hp2⟩


theorem ok_lwhole (T : Tx K mg f_turned d_turned f_lines_at d_lines_at f_hooks d_hooks f_line_hooks d_line_hooks f_fillings d_fillings f_product_to d_product_to f_ldrawn d_ldrawn f_lwhole d_lwhole f_lrow_by d_lrow_by f_lcounted d_lcounted f_lchoices d_lchoices) : FnOk P w K mg base CX0 1 f_lwhole d_lwhole ["found"] spWhole := by
  refine T.F_lwhole.ok sc_lwhole (fun vs H Q E h => ?_) (fun cdv A outer s H vs Q E hr h => ?_)
  · obtain ⟨i, rfl, _⟩ := h
    rfl
  obtain ⟨i, rfl, q⟩ := h
  refine ⟨_, (pss_one (ps_ret (pe_and (pe_callB call_isinst rfl T.z_isinstance boot_isinstance (pa_cons (pv 0) (pa_cons (pe_bltn (v := .ty "int") rfl T.z_int boot_int rfl) pa_nil))) (pe_one (pe_not (pe_callB call_isinst rfl T.z_isinstance boot_isinstance (pa_cons (pv 0) (pa_cons (pe_bltn (v := .ty "bool") rfl T.z_bool boot_bool rfl) pa_nil)))))))), ?_⟩
  refine ⟨_, rfl, _, _, _, true, rfl, .int i, kit_int_int, _, rfl, iteT ?_⟩
  exact ⟨_, rfl, _, _, _, false, rfl, .int i, kit_int_bool, _, rfl, q⟩


theorem ok_lines_at (T : Tx K mg f_turned d_turned f_lines_at d_lines_at f_hooks d_hooks f_line_hooks d_line_hooks f_fillings d_fillings f_product_to d_product_to f_ldrawn d_ldrawn f_lwhole d_lwhole f_lrow_by d_lrow_by f_lcounted d_lcounted f_lchoices d_lchoices) : FnOk P w K mg base CX0 1 f_lines_at d_lines_at ["row", "place"] (spLinesAt K) := by
  refine T.F_lines_at.ok sc_lines_at (fun vs H Q E h => ?_) (fun cdv A outer s H vs Q E hr h => ?_)
  · obtain ⟨a, r, j, rfl, _⟩ := h
    rfl
  obtain ⟨a, r, j, rfl, hS, hlen, q⟩ := h
  refine ⟨_, (pss_one (ps_ret (pe_callB call_len_seq rfl T.z_len PySem.boot_len (pa_cons (pe_comp ["row", "place"] ["number", "place"] [none, some 1] (defScope s_lines_at) rfl (pi_list (pv 0)) (fun _ _ _ _ => (pg_name (i := 0) (show List.Nodup (["number", "place"] : List Str) by decide +kernel) rfl (Or.inl rfl) (Or.inr rfl))) (fun _ _ _ _ => (pif_one (pt_cmpR op_gt (pv 0) (pv 1) (nomark _)))) (fun _ _ _ _ => (pv 0))) pa_nil)))), ?_⟩
  refine ⟨_, rfl, a, rfl, ⟨_, hS⟩, fun D hD => comp_gt hS hlen hD fun H2 s2 hD2 => ?_⟩
  refine ⟨D, _, rfl, .inl (SqL.of hD2), ?_⟩
  rw [List.length_map]
  exact q H2 s2


theorem ok_turned (T : Tx K mg f_turned d_turned f_lines_at d_lines_at f_hooks d_hooks f_line_hooks d_line_hooks f_fillings d_fillings f_product_to d_product_to f_ldrawn d_ldrawn f_lwhole d_lwhole f_lrow_by d_lrow_by f_lcounted d_lcounted f_lchoices d_lchoices) : FnOk P w K mg base CX0 2 f_turned d_turned ["row"] (spTurned K) := by
  have G_lines_at : FnOk P w K mg base CX0 1 f_lines_at d_lines_at ["row", "place"] (spLinesAt K) := ok_lines_at T
  refine T.F_turned.ok sc_turned (fun vs H Q E h => ?_) (fun cdv A outer s H vs Q E hr h => ?_)
  · obtain ⟨a, r, rfl, _⟩ := h
    rfl
  obtain ⟨a, r, rfl, hS, hlen, hh0, hhead, q⟩ := h
  refine ⟨_, (pss_cons (ps_set (i := 1) sc_turned.nd rfl (Or.inl rfl) (pe_ifExp (pt_truth (pv 0) (fun _ => rfl)) (pe_ix ix_list (pv 0) pe_int (fun _ _ => rfl)) pe_int))
      (pss_one (ps_ret (pe_comp ["row", "width"] ["place", "row"] [none, some 0] (defScope s_turned) rfl (pi_range1 rfl T.z_range (pa_cons (pv 1) pa_nil)) (fun _ _ _ _ => (pg_name (i := 0) (show List.Nodup (["place", "row"] : List Str) by decide +kernel) rfl (Or.inl rfl) (Or.inr rfl))) (fun _ _ _ _ => pif_nil) (fun _ _ _ _ => (pe_call G_lines_at (hr.mono (by decide)) rfl T.m_lines_at T.F_lines_at.kp T.b_lines_at .nil pass0 (pa_cons (pv 1) (pa_cons (pv 0) pa_nil)))))))), ?_⟩
  have rest : ∀ D, H D = none → CompW (Itr 0 (r.headD 0).toNat) (gName 0) (fun _ H Q => Q true H) (tCall (spLinesAt K) [] E0 (tCons (tVar 1) (tCons (tVar 0) tNil))) Q D [none, some (.ref a)] H := fun D hD => by
    refine comp_range (lo := 0) (n := (r.headD 0).toNat) (fun i ys σ H2 => ∃ u : Option V, σ = [u, some (.ref a)] ∧ Same H H2 ∧ H2 D = some (.lst ys) ∧ ys = ((List.range i).map fun j => ((linesAt r (j : Nat) : Nat) : Int)).map V.int)
      ⟨none, rfl, same_new hD _, upd_same, rfl⟩ ?_ ?_
    · rintro i ys σ H2 hi ⟨u, rfl, s2, hD2, rfl⟩
      refine ⟨_, rfl, _, rfl, a, r, _, rfl, s2.seq hS, hlen, fun H3 s3 => ⟨s3 _ _ hD2, ?_, _, rfl, same_upd (s2.trans s3) hD, upd_same, ?_⟩⟩
      · rw [List.length_map, List.length_map, List.length_range]
        exact small1000 (by omega)
      · rw [List.range_succ, List.map_append, List.map_append]
        have e : (0 + (i : Int)) = (i : Int) := Int.zero_add _
        rw [e]
        rfl
    · rintro ys σ H2 ⟨u, rfl, s2, hD2, rfl⟩
      exact q D H2 s2 hD hD2
  cases hr0 : r with
  | nil =>
    subst hr0
    refine ⟨_, rfl, false, .inl ⟨_, hS, rfl⟩, iteF ?_⟩
    exact ⟨_, rfl, 0, rfl, by decide, by decide, rest⟩
  | cons x t =>
    have hv : atI (r.map V.int) 0 = some (.int (r.headD 0)) := by
      have z := at_int (ns := r) (i := 0) (by decide) (by rw [hr0, List.length_cons]; omega)
      have e : r.getD (0 : Int).toNat 0 = r.headD 0 := by rw [hr0]; rfl
      rw [e] at z
      exact z
    refine ⟨_, rfl, true, .inl ⟨_, hS, by rw [hr0]; rfl⟩, iteT ?_⟩
    exact ⟨_, rfl, a, _, _, _, rfl, rfl, hS, hv, _, rfl, r.headD 0, rfl, by omega, by omega, rest⟩


theorem ok_line_hooks (T : Tx K mg f_turned d_turned f_lines_at d_lines_at f_hooks d_hooks f_line_hooks d_line_hooks f_fillings d_fillings f_product_to d_product_to f_ldrawn d_ldrawn f_lwhole d_lwhole f_lrow_by d_lrow_by f_lcounted d_lcounted f_lchoices d_lchoices) : FnOk P w K mg base CX0 1 f_line_hooks d_line_hooks ["row", "columns", "line"] (spLineHooks K) := by
  refine T.F_line_hooks.ok sc_line_hooks (fun vs H Q E h => ?_) (fun cdv A outer s H vs Q E hr h => ?_)
  · obtain ⟨a, c, r, k, rfl, _⟩ := h
    rfl
  obtain ⟨a, c, r, k, rfl, hS, hC, hrow, hlen, hhead, h0, h1, q⟩ := h
  refine ⟨_, (pss_cons (ps_set (i := 3) sc_line_hooks.nd rfl (Or.inl rfl) (pe_lst pa_nil))
      (pss_cons (ps_for PassesOwn.never rfl (pi_range1 rfl T.z_range (pa_cons (pe_ix ix_list (pv 0) (pv 2) (fun _ _ => rfl)) pa_nil)) (pg_name (i := 4) sc_line_hooks.nd rfl (Or.inl rfl)) (pss_cons (ps_set (i := 5) sc_line_hooks.nd rfl (Or.inl rfl) (pe_op op_sub (pe_op op_sub (pe_ix ix_list (pv 0) (pv 2) (fun _ _ => rfl)) (pv 4)) pe_int))
      (pss_cons (ps_set (i := 6) sc_line_hooks.nd rfl (Or.inl rfl) (pe_op op_sub (pe_op op_sub (pe_ix ix_list (pv 1) (pv 4) (fun _ _ => rfl)) (pv 2)) pe_int))
      (pss_one (ps_expr (pe_bm PySem.F.plainAttrs_list PySem.F.slot_list_append PySem.F.type_list_append mt_append (pv 3) (pa_cons (pe_op op_add (pe_op op_add (pv 5) (pv 6)) pe_int) pa_nil)))))))
      (pss_one (ps_ret (pv 3))))), ?_⟩
  have hk : k.toNat < r.length := by omega
  have hv := at_int (ns := r) (i := k) h0 h1
  have hle := row_le_head hrow hk
  have hpos : 1 ≤ r.getD k.toNat 0 := hrow.1 _ hk
  refine ⟨(by show 0 ≤ sizeLine; decide), fun p hp => ?_⟩
  have s1 : Same H (upd H p (.lst [])) := same_new hp _
  refine ⟨_, rfl, _, rfl, a, _, _, _, rfl, rfl, s1.seq hS, hv, _, rfl, by omega, by omega, for_range (lo := 0) (n := (r.getD k.toNat 0).toNat)
    (fun i σ H2 => ∃ u v x : Option V, σ = [some (.ref a), some (.ref c), some (.int k), some (.ref p), u, v, x] ∧ Same H H2 ∧ H2 p = some (.lst (((List.range i).map fun (j : Nat) => r.getD k.toNat 0 - (j : Int) + (linesAt (r.drop (k.toNat + 1)) (j : Nat) : Int)).map V.int)))
    ⟨none, none, none, rfl, s1, upd_same⟩ ?_ ?_⟩
  · rintro i σ H2 hi ⟨u, v, x, rfl, s2, hp2⟩
    have ei : (0 + (i : Int)).toNat = i := by omega
    have hcv := at_int (ns := turnedM r) (i := 0 + (i : Int)) (by omega) (by rw [turned_len]; omega)
    rw [ei, turned_at (by omega)] at hcv
    refine ⟨_, rfl, _, rfl, a, _, _, _, rfl, rfl, s2.seq hS, hv, _, rfl, _, _, rfl, rfl, _, _, rfl, rfl, ?_⟩
    refine ⟨_, rfl, _, rfl, c, _, _, _, rfl, rfl, s2.seq hC, hcv, _, rfl, _, _, rfl, rfl, _, _, rfl, rfl, ?_⟩
    refine ⟨_, rfl, .inl ⟨rfl, _, SqL.of hp2⟩, _, rfl, _, rfl, _, _, rfl, rfl, _, _, rfl, rfl, p, _, _, rfl, rfl, hp2, ?_, ?_⟩
    · rw [List.length_map, List.length_map, List.length_range]
      exact small1000 (by omega)
    · refine ⟨_, _, _, rfl, same_upd s2 hp, ?_⟩
      rw [upd_same, List.range_succ, List.map_append, List.map_append]
      have e2 := hook_two (isRow_pair hrow) hk (j := (i : Int)) (by omega)
      have e3 : r.getD k.toNat 0 - (0 + (i : Int)) - 1 + ((linesAt r (i : Nat) : Nat) - k - 1) + 1 = r.getD k.toNat 0 - (i : Int) + (linesAt (r.drop (k.toNat + 1)) (i : Nat) : Int) := by omega
      exact congrArg (fun z => some (HO.lst (_ ++ [V.int z]))) e3
  · rintro σ H2 ⟨u, v, x, rfl, s2, hp2⟩
    exact ⟨_, rfl, q p H2 s2 hp hp2⟩


theorem ok_hooks (T : Tx K mg f_turned d_turned f_lines_at d_lines_at f_hooks d_hooks f_line_hooks d_line_hooks f_fillings d_fillings f_product_to d_product_to f_ldrawn d_ldrawn f_lwhole d_lwhole f_lrow_by d_lrow_by f_lcounted d_lcounted f_lchoices d_lchoices) : FnOk P w K mg base CX0 3 f_hooks d_hooks ["row"] (spHooks K) := by
  have G_turned : FnOk P w K mg base CX0 2 f_turned d_turned ["row"] (spTurned K) := ok_turned T
  have G_line_hooks : FnOk P w K mg base CX0 1 f_line_hooks d_line_hooks ["row", "columns", "line"] (spLineHooks K) := ok_line_hooks T
  refine T.F_hooks.ok sc_hooks (fun vs H Q E h => ?_) (fun cdv A outer s H vs Q E hr h => ?_)
  · obtain ⟨a, r, rfl, _⟩ := h
    rfl
  obtain ⟨a, r, rfl, hS, hrow, hlen, hhead, q⟩ := h
  refine ⟨_, (pss_cons (ps_set (i := 1) sc_hooks.nd rfl (Or.inr rfl) (pe_call G_turned (hr.mono (by decide)) rfl T.m_turned T.F_turned.kp T.b_turned .nil pass0 (pa_cons (pv 0) pa_nil)))
      (pss_one (ps_ret (pe_comp ["row", "columns"] ["line", "row", "columns"] [none, some 0, some 1] (defScope s_hooks) rfl (pi_range1 rfl T.z_range (pa_cons (pe_callB call_len_seq rfl T.z_len PySem.boot_len (pa_cons (pv 0) pa_nil)) pa_nil)) (fun _ _ _ _ => (pg_name (i := 0) (show List.Nodup (["line", "row", "columns"] : List Str) by decide +kernel) rfl (Or.inl rfl) (Or.inr rfl))) (fun _ _ _ _ => pif_nil) (fun _ _ _ _ => (pe_call G_line_hooks (hr.mono (by decide)) rfl T.m_line_hooks T.F_line_hooks.kp T.b_line_hooks .nil pass0 (pa_cons (pv 1) (pa_cons (pv 2) (pa_cons (pv 0) pa_nil))))))))), ?_⟩
  have hl : (r.map V.int).length = r.length := List.length_map _
  have hh0 : 0 ≤ r.headD 0 := by
    cases hr0 : r with
    | nil => exact Int.le_refl _
    | cons x t =>
      have := isRow_pos hrow x (by rw [hr0]; exact List.mem_cons_self ..)
      show 0 ≤ x
      omega
  refine ⟨_, rfl, a, r, rfl, hS, hlen, hh0, hhead, fun c H1 s1 hc hc1 => ?_⟩
  refine ⟨_, rfl, a, _, rfl, .inl (s1.seq hS), _, rfl, by omega, by omega, fun D hD => comp_range (lo := 0) (n := (((r.map V.int).length : Nat) : Int).toNat)
    (fun i ys σ H2 => ∃ (u : Option V) (ps : List Addr), σ = [u, some (.ref a), some (.ref c)] ∧ Same H1 H2 ∧ H2 D = some (.lst ys) ∧ ys = ps.map V.ref ∧ Made H1 H2 D ps i (hookLine r))
    ⟨none, [], rfl, same_new hD _, upd_same, rfl, Made.zero⟩ ?_ ?_⟩
  · rintro i ys σ H2 hi ⟨u, ps, rfl, s2, hD2, rfl, M⟩
    have hi' : i < r.length := by omega
    refine ⟨_, rfl, _, rfl, _, rfl, a, c, r, 0 + (i : Int), rfl, s2.seq (s1.seq hS), s2.seq (SqL.of hc1), hrow, hlen, hhead, by omega, by omega, fun p H3 s3 hp hp3 => ?_⟩
    have ei : (0 + (i : Int)).toNat = i := by omega
    rw [ei] at hp3
    refine ⟨s3 _ _ hD2, ?_, _, ps ++ [p], rfl, same_upd (s2.trans s3) hD, upd_same, ?_, M.snoc s2 s3 hp hp3 ⟨_, hD2⟩⟩
    · rw [List.length_map, M.len]
      exact small1000 (by omega)
    · rw [List.map_append]
      rfl
  · rintro ys σ H2 ⟨u, ps, rfl, s2, hD2, rfl, M⟩
    have en : (((r.map V.int).length : Nat) : Int).toNat = r.length := by omega
    rw [en] at M
    refine q D ps H2 (s1.trans s2) (s1.free hD) ⟨⟨by rw [hooksM_len]; exact M.len, hD2, fun k hk => ?_⟩, fun x hx => s1.free (M.fresh x hx), M.nd, M.np⟩
    rw [hooksM_len] at hk
    rw [hooksM_at hk]
    exact M.each k hk


theorem ok_product_to (T : Tx K mg f_turned d_turned f_lines_at d_lines_at f_hooks d_hooks f_line_hooks d_line_hooks f_fillings d_fillings f_product_to d_product_to f_ldrawn d_ldrawn f_lwhole d_lwhole f_lrow_by d_lrow_by f_lcounted d_lcounted f_lchoices d_lchoices) : FnOk P w K mg base CX0 1 f_product_to d_product_to ["number"] spProd := by
  refine T.F_product_to.ok sc_product_to (fun vs H Q E h => ?_) (fun cdv A outer s H vs Q E hr h => ?_)
  · obtain ⟨n, rfl, _⟩ := h
    rfl
  obtain ⟨n, rfl, h0, h1, q⟩ := h
  refine ⟨_, (pss_cons (ps_set (i := 1) sc_product_to.nd rfl (Or.inl rfl) pe_int)
      (pss_cons (ps_for PassesOwn.never rfl (pi_range2 rfl T.z_range (pa_cons pe_int (pa_cons (pe_op op_add (pv 0) pe_int) pa_nil))) (pg_name (i := 2) sc_product_to.nd rfl (Or.inl rfl)) (pss_one (ps_set (i := 1) sc_product_to.nd rfl (Or.inl rfl) (pe_op op_mul (pv 1) (pv 2)))))
      (pss_one (ps_ret (pv 1))))), ?_⟩
  refine ⟨_, rfl, _, _, rfl, rfl, 1, _, rfl, ⟨by decide, by decide, by omega, by omega⟩, for_range (lo := 1) (n := (n + 1 - 1).toNat)
    (fun i σ J => ∃ u : Option V, σ = [some (.int n), some (.int (factI i)), u] ∧ J = H) ⟨none, rfl, rfl⟩ ?_ ?_⟩
  · rintro i σ J hi ⟨u, rfl, rfl⟩
    refine ⟨_, rfl, _, rfl, _, _, rfl, rfl, .inr ⟨by omega, by omega⟩, ?_⟩
    refine ⟨some (.int (1 + (i : Int))), ?_, rfl⟩
    have e : factI i * (1 + (i : Int)) = factI (i + 1) := by rw [Int.add_comm]; rfl
    rw [← e]
    rfl
  · rintro σ J ⟨u, rfl, rfl⟩
    refine ⟨_, rfl, ?_⟩
    rw [show (n + 1 - 1).toNat = n.toNat by omega]
    exact q
theorem ok_fillings (T : Tx K mg f_turned d_turned f_lines_at d_lines_at f_hooks d_hooks f_line_hooks d_line_hooks f_fillings d_fillings f_product_to d_product_to f_ldrawn d_ldrawn f_lwhole d_lwhole f_lrow_by d_lrow_by f_lcounted d_lcounted f_lchoices d_lchoices) : FnOk P w K mg base CX0 4 f_fillings d_fillings ["row"] (spFill K) := by
  have G_hooks : FnOk P w K mg base CX0 3 f_hooks d_hooks ["row"] (spHooks K) := ok_hooks T
  have G_product_to : FnOk P w K mg base CX0 1 f_product_to d_product_to ["number"] spProd := ok_product_to T
  refine T.F_fillings.ok sc_fillings (fun vs H Q E h => ?_) (fun cdv A outer s H vs Q E hr h => ?_)
  · obtain ⟨a, r, rfl, _⟩ := h
    rfl
  obtain ⟨a, r, rfl, hS, hrow, hsum, q⟩ := h
  refine ⟨_, (pss_cons (ps_set (i := 1) sc_fillings.nd rfl (Or.inl rfl) pe_int)
      (pss_cons (ps_for PassesOwn.never rfl (pi_list (pe_call G_hooks (hr.mono (by decide)) rfl T.m_hooks T.F_hooks.kp T.b_hooks .nil pass0 (pa_cons (pv 0) pa_nil))) (pg_name (i := 2) sc_fillings.nd rfl (Or.inl rfl)) (pss_one (ps_for PassesOwn.never rfl (pi_list (pv 2)) (pg_name (i := 3) sc_fillings.nd rfl (Or.inl rfl)) (pss_one (ps_set (i := 1) sc_fillings.nd rfl (Or.inl rfl) (pe_op op_mul (pv 1) (pv 3)))))))
      (pss_one (ps_ret (pe_op op_fdivB (pe_call G_product_to (hr.mono (by decide)) rfl T.m_product_to T.F_product_to.kp T.b_product_to .nil pass0 (pa_cons (pe_callB (call_sum_ints rfl) rfl T.z_sum boot_sum (pa_cons (pv 0) pa_nil)) pa_nil)) (pv 1)))))), ?_⟩
  have hln := row_len hrow
  have hhd := row_head hrow
  have hel := row_sum hrow
  refine ⟨_, rfl, a, r, rfl, hS, hrow, by omega, by omega, fun hk hps H2 s2 hhk M2 => ?_⟩
  have hhl : (hps.map V.ref).length = r.length := by rw [List.length_map, M2.rd.len, hooksM_len]
  refine ⟨hk, rfl, ⟨_, SqL.of M2.rd.at'⟩, for_list (K := K) (a := hk) (xs := hps.map V.ref)
    (fun j σ J => ∃ u v : Option V, σ = [some (.ref a), some (.int (prodL ((hooksM r).take j).flatten)), u, v] ∧ J = H2)
    ⟨none, none, rfl, rfl⟩ (fun j σ J _ ⟨_, _, _, z⟩ => by rw [z]; exact SqL.of M2.rd.at') ?_ ?_⟩
  · rintro j y σ J hj ⟨u, v, rfl, rfl⟩
    have hjl : j < (hps.map V.ref).length := (List.getElem?_eq_some_iff.mp hj).1
    rw [hhl] at hjl
    have hjp : j < hps.length := by rw [M2.rd.len, hooksM_len]; exact hjl
    obtain rfl : y = V.ref (hps.getD j 0) := by
      rw [List.getElem?_map, getA_of hjp] at hj
      exact (Option.some.inj hj).symm
    have rowj := M2.rd.each j (by rw [hooksM_len]; exact hjl)
    rw [hooksM_at hjl] at rowj
    have hll : ((hookLine r j).map V.int).length = (hookLine r j).length := List.length_map _
    refine ⟨_, rfl, _, rfl, ⟨_, SqL.of rowj⟩, for_list (K := K) (a := hps.getD j 0) (xs := (hookLine r j).map V.int)
      (fun i σ J' => ∃ v : Option V, σ = [some (.ref a), some (.int (prodL (((hooksM r).take j).flatten ++ (hookLine r j).take i))), some (.ref (hps.getD j 0)), v] ∧ J' = J)
      ⟨_, by rw [List.take_zero, List.append_nil]; rfl, rfl⟩ (fun i σ J' _ ⟨_, _, z⟩ => by rw [z]; exact SqL.of rowj) ?_ ?_⟩
    · rintro i x σ J' hi ⟨v, rfl, rfl⟩
      have hil : i < ((hookLine r j).map V.int).length := (List.getElem?_eq_some_iff.mp hi).1
      rw [hll] at hil
      obtain rfl : x = V.int ((hookLine r j).getD i 0) := by
        rw [List.getElem?_map, getD_of hil] at hi
        exact (Option.some.inj hi).symm
      have hb := hook_bounds hrow (x := (hookLine r j).getD i 0) (List.mem_flatten.mpr ⟨hookLine r j, List.mem_map.mpr ⟨j, List.mem_range.mpr hjl, rfl⟩, by rw [← getD_elem hil]; exact List.getElem_mem _⟩)
      rw [← head_getD] at hb
      refine ⟨_, rfl, _, rfl, _, _, rfl, rfl, .inr ⟨by omega, by omega⟩, some (.int ((hookLine r j).getD i 0)), ?_, rfl⟩
      rw [List.take_succ_eq_append_getElem hil, ← List.append_assoc, prodL_snoc, getD_elem hil]
      rfl
    · rintro σ J' ⟨v, rfl, rfl⟩
      refine ⟨some (.ref (hps.getD j 0)), v, ?_, rfl⟩
      rw [hll, List.take_length, List.take_succ_eq_append_getElem (by rw [hooksM_len]; exact hjl), List.flatten_append]
      have e : (hooksM r)[j]'(by rw [hooksM_len]; exact hjl) = hookLine r j := by rw [← hooksM_at hjl, List.getD_eq_getElem?_getD, List.getElem?_eq_getElem (by rw [hooksM_len]; exact hjl)]; rfl
      rw [e]
      simp only [List.flatten_cons, List.flatten_nil, List.append_nil]
      try rfl
  · rintro σ J ⟨u, v, rfl, rfl⟩
    rw [hhl, List.take_of_length_le (by rw [hooksM_len]; exact Nat.le_refl _), hookP_flat]
    have b := fill_bd hrow hsum
    refine ⟨_, rfl, a, r, rfl, s2.seq hS, by omega, fun x hx => by have := hel.2 x hx; omega, _, rfl, by omega, by omega, _, rfl, _, _, rfl, rfl, ⟨b.2.2.1, pow_le2 (abs_lt (by omega) b.2.2.2) (by decide)⟩, ?_⟩
    exact q J s2

theorem ok_lcounted (T : Tx K mg f_turned d_turned f_lines_at d_lines_at f_hooks d_hooks f_line_hooks d_line_hooks f_fillings d_fillings f_product_to d_product_to f_ldrawn d_ldrawn f_lwhole d_lwhole f_lrow_by d_lrow_by f_lcounted d_lcounted f_lchoices d_lchoices) : ∀ f : Nat, FnOk P w K mg base CX0 f f_lcounted d_lcounted ["row", "table"] (spCounted K f)
  | 0 => ⟨fun vs H Q E ⟨a, d, r, kvs, e, _⟩ => by rw [e]; rfl, fun A outer s H args us vs Q E hr he hb hv ⟨a, d, r, kvs, e, _, hrow, _, hf, _⟩ => absurd (row_head hrow) (by omega)⟩
  | f + 1 => by
    have G_lcounted : FnOk P w K mg base CX0 f f_lcounted d_lcounted ["row", "table"] (spCounted K f) := ok_lcounted T f
    refine T.F_lcounted.ok sc_lcounted (fun vs H Q E h => ?_) (fun cdv A outer s H vs Q E hr h => ?_)
    · obtain ⟨a, d, r, kvs, rfl, _⟩ := h
      rfl
    obtain ⟨a, d, r, kvs, rfl, hA, hrow, h16, hf, hD, TB, q⟩ := h
    have hu := hr.units
    have hs : sizeLine = 16777216 := sizeLine_eq
    have hln := row_len hrow
    refine ⟨_, (pss_cons (ps_set (i := 2) sc_lcounted.nd rfl (Or.inl rfl) (pe_callTy call_tuple_of rfl T.z_tuple boot_tuple (pa_cons (pv 0) pa_nil)))
      (pss_cons (ps_mid (ps_if (pt_cmp (pc_dnotin (lt64 hu) (pv 2) (pv 1)) (by with_unfolding_all rfl)) (pss_cons (ps_set (i := 3) sc_lcounted.nd rfl (Or.inl rfl) pe_int)
      (pss_cons (ps_for PassesOwn.never rfl (pi_range1 rfl T.z_range (pa_cons (pe_callB call_len_seq rfl T.z_len PySem.boot_len (pa_cons (pv 0) pa_nil)) pa_nil)) (pg_name (i := 4) sc_lcounted.nd rfl (Or.inl rfl)) (pss_one (ps_if (PW.pt (pw_or (pt_cmpR op_eq (pe_op op_add (pv 4) pe_int) (pe_callB call_len_seq rfl T.z_len PySem.boot_len (pa_cons (pv 0) pa_nil)) (nomark _)) (pw_or1 (pt_cmpR op_lt (pe_ix ix_list (pv 0) (pe_op op_add (pv 4) pe_int) (fun _ _ => rfl)) (pe_ix ix_list (pv 0) (pv 4) (fun _ _ => rfl)) (nomark _))))) (pss_cons (ps_set (i := 5) sc_lcounted.nd rfl (Or.inl rfl) (pe_op op_cat (pe_op op_cat (pe_slice sl_list (pv 0) po_none (po_some (pv 4))) (pe_lst (pa_cons (pe_op op_sub (pe_ix ix_list (pv 0) (pv 4) (fun _ _ => rfl)) pe_int) pa_nil))) (pe_slice sl_list (pv 0) (po_some (pe_op op_add (pv 4) pe_int)) po_none)))
      (pss_one (ps_set (i := 3) sc_lcounted.nd rfl (Or.inl rfl) (pe_op op_add (pv 3) (pe_call G_lcounted (hr.mono (by omega)) rfl T.m_lcounted T.F_lcounted.kp T.b_lcounted .nil pass0 (pa_cons (pe_comp ["row", "table", "key", "many", "k", "less"] ["number"] [none] (defScope s_lcounted) rfl (pi_list (pv 5)) (fun _ _ _ _ => (pg_name (i := 0) (show List.Nodup (["number"] : List Str) by decide +kernel) rfl (Or.inl rfl) (Or.inr rfl))) (fun _ _ _ _ => (pif_one (pt_cmpR op_gt (pv 0) pe_int (nomark _)))) (fun _ _ _ _ => (pv 0))) (pa_cons (pv 1) pa_nil))))))) pss_nil)))
      (pss_one (ps_dput (lt64 hu) (pv 1) (pv 2) (pv 3) rfl)))) pss_nil))
      (pss_one (ps_ret (pe_dget (lt64 hu) (pv 1) (pv 2) (fun _ _ => rfl)))))), ?_⟩
    refine ⟨_, rfl, a, _, rfl, .inl ⟨SqL.of hA, fun b hb => ?_⟩⟩
    have s1 := same_new hb (.tup (r.map V.int))
    obtain ⟨H1, hH1⟩ : ∃ H1, H1 = upd H b (.tup (r.map V.int)) := ⟨_, rfl⟩
    have hb1 : H1 b = some (.tup ((keyOf r).map kV)) := by rw [hH1, upd_same, keyOf_kV]
    rw [← hH1] at s1 ⊢
    have hA1 := s1 _ _ hA
    have hD1 := s1 _ _ hD
    have nbd : b ≠ d := fun z => by rw [z, hD1] at hb1; cases hb1
    have nad : a ≠ d := fun z => by rw [z, hD1] at hA1; cases hA1
    have hl : (r.map V.int).length = r.length := List.length_map _
    refine ⟨fun σ' J' => ∃ (u3 u4 u5 : Option V) (kvs' : List (List Key × V)), σ' = [some (.ref a), some (.ref d), some (.ref b), u3, u4, u5] ∧ SameX d H1 J' ∧ J' d = some (.dT kvs') ∧ Tab kvs' ∧ valV kvs' (keyOf r) = some (.int (fillM r)), ?_, ?_⟩
    rotate_left
    · rintro σ' J' ⟨u3, u4, u5, kvs', rfl, sx, hd', TB', hval⟩
      have hb' := sx _ _ nbd hb1
      refine ⟨_, rfl, _, rfl, d, _, rfl, hval ▸ DGet.t hd' hb', ?_⟩
      exact q J' kvs' ((toX s1).trans sx) hd' TB'
    refine ⟨_, rfl, _, rfl, d, _, rfl, DGet.t hD1 hb1, _, rfl, ite2 (fun c => ?_) (fun c => ?_)⟩
    rotate_left
    · cases hv : valV kvs (keyOf r) with
      | none => rw [hv] at c; exact absurd rfl c
      | some v =>
        have e := TB.val r v hv
        exact ⟨_, _, _, kvs, rfl, toX fun _ _ z => z, hD1, TB, by rw [hv, e]⟩
    have hnone : valV kvs (keyOf r) = none := by
      cases hv : valV kvs (keyOf r) with
      | none => rfl
      | some v => rw [hv] at c; cases c
    have hne : 0 < r.length := by
      by_cases z : 0 < r.length
      · exact z
      · rw [List.length_eq_zero_iff.mp (by omega : r.length = 0), TB.nil] at hnone; cases hnone
    refine ⟨_, rfl, a, _, rfl, .inl (SqL.of hA1), _, rfl, by omega, by omega, for_range (lo := 0) (n := (((r.map V.int).length : Nat) : Int).toNat)
      (fun i σ J => ∃ (u4 u5 : Option V) (kvs' : List (List Key × V)), σ = [some (.ref a), some (.ref d), some (.ref b), some (.int (sI i fun k => if endAt r k then fillM (lessAt r k) else 0)), u4, u5] ∧ SameX d H1 J ∧ J d = some (.dT kvs') ∧ Tab kvs')
      ⟨none, none, kvs, rfl, toX fun _ _ z => z, hD1, TB⟩ ?_ ?_⟩
    · rintro i σ J hi ⟨u4, u5, kvs', rfl, sx, hJd, TJ⟩
      have hil : i < r.length := by omega
      have hJa := sx _ _ nad hA1
      have ei : (0 + (i : Int)) = (i : Int) := Int.zero_add _
      rw [ei]
      have v2 := at_int (ns := r) (i := (i : Int)) (by omega) (by omega)
      rw [Int.toNat_natCast] at v2
      have hpos := hrow.1 i hil
      refine' (fun (hh : ∀ n : Nat, endAt r i → (_ : Nat → Prop) n) => ?one) ?two
      case one =>
        refine ⟨_, rfl, _, _, rfl, rfl, _, rfl, a, _, rfl, .inl (SqL.of hJa), rfl, _, rfl, ite2 (fun c1 => iteT ?_) (fun c1 => ?_)⟩
        · have c1' : (i : Int) + 1 = (((r.map V.int).length : Nat) : Int) := V.int.inj (of_decide_eq_true c1)
          have he : endAt r i := by
            unfold endAt
            rw [getD_ge (l := i + 1) (by omega)]
            omega
          obtain ⟨nn, hnn⟩ : ∃ n : Nat, n = n := ⟨0, rfl⟩
          exact hh nn he
        · have c1' : ¬ (i : Int) + 1 = (((r.map V.int).length : Nat) : Int) := fun z => c1 (decide_eq_true (congrArg V.int z))
          have v1 := at_int (ns := r) (i := (i : Int) + 1) (by omega) (by omega)
          rw [show ((i : Int) + 1).toNat = i + 1 by omega] at v1
          refine ⟨_, rfl, _, rfl, _, _, rfl, rfl, a, _, _, _, rfl, rfl, SqL.of hJa, v1, _, rfl, _, rfl, a, _, _, _, rfl, rfl, SqL.of hJa, v2, _, _, rfl, rfl, _, rfl, ite2 (fun c2 => hh 0 (of_decide_eq_true c2)) (fun c2 => ?_)⟩
          have c2' : ¬ endAt r i := fun z => c2 (decide_eq_true z)
          refine ⟨some (.int (i : Int)), u5, kvs', ?_, sx, hJd, TJ⟩
          rw [sI_snoc, if_neg c2', Int.add_zero]
          rfl
      case two =>
        intro _ he
        have hless := less_row hrow he
        refine ⟨_, rfl, _, rfl, _, rfl, a, _, rfl, SqL.of hJa, fun c1 hc1 => ?_⟩
        rw [cutV_int, cutI_pre (by omega)]
        have t1 := same_new hc1 (.lst ((r.take i).map V.int))
        refine ⟨_, rfl, _, rfl, a, _, _, _, rfl, rfl, SqL.of (t1 _ _ hJa), v2, _, _, rfl, rfl, (by show 1 ≤ sizeLine; decide), fun z hz => ?_⟩
        have t2 := same_new hz (.lst [.int (r.getD i 0 - 1)])
        refine ⟨c1, z, _, _, rfl, rfl, t2 _ _ upd_same, upd_same, by simp only [List.length_map, List.length_take, List.length_singleton]; omega, fun g1 hg1 => ?_⟩
        have t3 := same_new hg1 (.lst ((r.take i).map V.int ++ [.int (r.getD i 0 - 1)]))
        have t13 := t1.trans (t2.trans t3)
        refine ⟨_, rfl, _, rfl, _, _, rfl, rfl, _, rfl, a, _, rfl, SqL.of (t13 _ _ hJa), fun c2 hc2 => ?_⟩
        rw [cutV_int, show ((i : Int) + 1) = ((i + 1 : Nat) : Int) by omega, cutI_suf (by omega)]
        have t4 := same_new hc2 (.lst ((r.drop (i + 1)).map V.int))
        refine ⟨g1, c2, _, _, rfl, rfl, t4 _ _ upd_same, upd_same, by simp only [List.length_map, List.length_take, List.length_drop, List.length_append, List.length_singleton]; omega, fun g2 hg2 => ?_⟩
        have eX : (r.take i).map V.int ++ [.int (r.getD i 0 - 1)] ++ (r.drop (i + 1)).map V.int = (r.take i ++ [r.getD i 0 - 1] ++ r.drop (i + 1)).map V.int := by
          rw [List.map_append, List.map_append]; rfl
        rw [eX]
        have t5 := same_new hg2 (.lst ((r.take i ++ [r.getD i 0 - 1] ++ r.drop (i + 1)).map V.int))
        have t15 := t13.trans (t4.trans t5)
        refine ⟨_, rfl, _, rfl, g2, rfl, ⟨_, SqL.of upd_same⟩, fun D hD' => comp_pos (SqL.of upd_same) (by simp only [List.length_take, List.length_drop, List.length_append, List.length_singleton]; omega) hD' fun J2 t6 hD2 => ?_⟩
        rw [← less_is] at hD2
        have t16 := t15.trans t6
        refine ⟨_, rfl, D, d, lessAt r i, kvs', rfl, hD2, hless.1, by omega, by omega, t16 _ _ hJd, TJ, fun J3 kvs3 sx3 hd3 T3 => ?_⟩
        refine ⟨_, _, rfl, rfl, some (.int (i : Int)), some (.ref g2), kvs3, ?_, sx.trans ((toX t16).trans sx3), hd3, T3⟩
        rw [sI_snoc, if_pos he]
        rfl
    · rintro σ J ⟨u4, u5, kvs', rfl, sx, hJd, TJ⟩
      have hJb := sx _ _ nbd hb1
      rw [hl, Int.toNat_natCast, fill_rec hrow hne]
      have few := TJ.few
      refine ⟨_, rfl, _, rfl, _, rfl, d, _, rfl, DPut.t hJd hJb (by omega), ?_⟩
      exact ⟨_, _, _, _, rfl, sx.put, upd_same, TJ.put hrow h16, by rw [valV_put, if_pos rfl]⟩
theorem ok_lchoices (T : Tx K mg f_turned d_turned f_lines_at d_lines_at f_hooks d_hooks f_line_hooks d_line_hooks f_fillings d_fillings f_product_to d_product_to f_ldrawn d_ldrawn f_lwhole d_lwhole f_lrow_by d_lrow_by f_lcounted d_lcounted f_lchoices d_lchoices) : FnOk P w K mg base CX0 1 f_lchoices d_lchoices ["many", "some"] spChoices := by
  refine T.F_lchoices.ok sc_lchoices (fun vs H Q E h => ?_) (fun cdv A outer s H vs Q E hr h => ?_)
  · obtain ⟨m, s, rfl, _⟩ := h
    rfl
  obtain ⟨m, s', rfl, m0, m60, s0, s30, q⟩ := h
  refine ⟨_, (pss_cons (ps_set (i := 2) sc_lchoices.nd rfl (Or.inl rfl) pe_int)
      (pss_cons (ps_for PassesOwn.never rfl (pi_range1 rfl T.z_range (pa_cons (pv 1) pa_nil)) (pg_name (i := 3) sc_lchoices.nd rfl (Or.inl rfl)) (pss_one (ps_set (i := 2) sc_lchoices.nd rfl (Or.inl rfl) (pe_op op_fdiv (pe_op op_mul (pv 2) (pe_op op_sub (pv 0) (pv 3))) (pe_op op_add (pv 3) pe_int)))))
      (pss_one (ps_ret (pv 2))))), ?_⟩
  refine ⟨_, rfl, _, rfl, by omega, by omega, for_range (lo := 0) (n := s'.toNat)
    (fun i σ J => ∃ u : Option V, σ = [some (.int m), some (.int s'), some (.int (chM m i)), u] ∧ J = H) ⟨none, rfl, rfl⟩ ?_ ?_⟩
  · rintro i σ J hi ⟨u, rfl, rfl⟩
    have bd := ch_bd m.toNat (by omega) i (by omega)
    rw [show ((m.toNat : Nat) : Int) = m by omega] at bd
    refine ⟨_, rfl, _, rfl, _, rfl, _, _, rfl, rfl, _, _, rfl, rfl, .inr ⟨by omega, by omega⟩, _, rfl, _, _, rfl, rfl, _, _, rfl, rfl, ⟨by omega, by omega⟩, some (.int (0 + (i : Int))), ?_, rfl⟩
    rw [Int.zero_add]
    rfl
  · rintro σ J ⟨u, rfl, rfl⟩
    exact ⟨_, rfl, q⟩

theorem row_rep {a : Int} (h : 1 ≤ a) (b : Nat) : IsRow (a :: List.replicate b 1) ∧ (a :: List.replicate b (1 : Int)).sum = a + (b : Int) := by
  constructor
  · refine isRow_iff.mpr ⟨fun x hx => ?_, List.pairwise_cons.mpr ⟨fun x hx => ?_, ?_⟩⟩
    · rcases List.mem_cons.mp hx with e | e
      · rw [e]; exact h
      · rw [(List.mem_replicate.mp e).2]; exact Int.le_refl _
    · rw [(List.mem_replicate.mp hx).2]; exact h
    · exact List.pairwise_replicate.mpr (.inr (Int.le_refl _))
  · rw [List.sum_cons]
    congr 1
    induction b with
    | zero => rfl
    | succ b ih => rw [List.replicate_succ, List.sum_cons, ih]; omega
theorem row_two {a b : Int} (h : 1 ≤ b) (hab : b ≤ a) : IsRow [a, b] ∧ ([a, b] : List Int).sum = a + b := by
  refine ⟨isRow_iff.mpr ⟨fun x hx => ?_, by simpa using hab⟩, by show a + (b + 0) = a + b; omega⟩
  rcases List.mem_cons.mp hx with e | e
  · omega
  · rw [List.mem_singleton.mp e]; exact h
theorem ok_law {f_law : Addr} {d_law : FuncData} (F : Fun K "law" "law" s_law f_law d_law) (T : Tx K mg f_turned d_turned f_lines_at d_lines_at f_hooks d_hooks f_line_hooks d_line_hooks f_fillings d_fillings f_product_to d_product_to f_ldrawn d_ldrawn f_lwhole d_lwhole f_lrow_by d_lrow_by f_lcounted d_lcounted f_lchoices d_lchoices) : FnOk P w K mg base CX0 20 f_law d_law ["script"] (spLaw K) := by
  have G_ldrawn : FnOk P w K mg base CX0 1 f_ldrawn d_ldrawn ["script", "k", "many"] (spDrawn K) := ok_ldrawn T
  have G_lrow_by : FnOk P w K mg base CX0 2 f_lrow_by d_lrow_by ["script", "base", "most"] (spRowBy K) := ok_lrow_by T
  have G_lwhole : FnOk P w K mg base CX0 1 f_lwhole d_lwhole ["found"] spWhole := ok_lwhole T
  have G_fillings : FnOk P w K mg base CX0 4 f_fillings d_fillings ["row"] (spFill K) := ok_fillings T
  have G_lchoices : FnOk P w K mg base CX0 1 f_lchoices d_lchoices ["many", "some"] spChoices := ok_lchoices T
  have G_lcounted : FnOk P w K mg base CX0 17 f_lcounted d_lcounted ["row", "table"] (spCounted K 17) := ok_lcounted T 17
  refine F.ok sc_law (fun vs H Q E h => ?_) (fun cdv A outer s H vs Q E hr h => ?_)
  · obtain ⟨a, ns, rfl, _⟩ := h
    rfl
  obtain ⟨a, ns, rfl, hS, h63, q⟩ := h
  have hu := hr.units
  have hs : sizeLine = 16777216 := sizeLine_eq
  refine ⟨_, (pss_cons (ps_set (i := 1) sc_law.nd rfl (Or.inl rfl) (pe_call G_lrow_by (hr.mono (by decide)) rfl T.m_lrow_by T.F_lrow_by.kp T.b_lrow_by .nil pass0 (pa_cons (pv 0) (pa_cons pe_int (pa_cons pe_int pa_nil)))))
      (pss_cons (ps_set (i := 2) sc_law.nd rfl (Or.inl rfl) (pe_call G_ldrawn (hr.mono (by decide)) rfl T.m_ldrawn T.F_ldrawn.kp T.b_ldrawn .nil pass0 (pa_cons (pv 0) (pa_cons pe_int (pa_cons pe_int pa_nil)))))
      (pss_cons (ps_set (i := 3) sc_law.nd rfl (Or.inl rfl) (pe_op op_add pe_int (pe_call G_ldrawn (hr.mono (by decide)) rfl T.m_ldrawn T.F_ldrawn.kp T.b_ldrawn .nil pass0 (pa_cons (pv 0) (pa_cons pe_int (pa_cons pe_int pa_nil))))))
      (pss_cons (ps_set (i := 4) sc_law.nd rfl (Or.inl rfl) (pe_call G_ldrawn (hr.mono (by decide)) rfl T.m_ldrawn T.F_ldrawn.kp T.b_ldrawn .nil pass0 (pa_cons (pv 0) (pa_cons pe_int (pa_cons (pe_op op_add (pv 3) pe_int) pa_nil)))))
      (pss_cons (ps_mid (ps_if (pt_cmpR op_eq (pv 2) pe_int (nomark _)) (pss_cons (ps_set (i := 1) sc_law.nd rfl (Or.inl rfl) (pe_op op_cat (pe_lst (pa_cons (pv 3) pa_nil)) (pe_comp ["script", "row", "way", "one", "other", "due", "handed", "found"] ["k"] [none] (defScope s_law) rfl (pi_range1 rfl T.z_range (pa_cons (pv 4) pa_nil)) (fun _ _ _ _ => (pg_name (i := 0) (show List.Nodup (["k"] : List Str) by decide +kernel) rfl (Or.inl rfl) (Or.inr rfl))) (fun _ _ _ _ => pif_nil) (fun _ _ _ _ => pe_int))))
      (pss_one (ps_set (i := 5) sc_law.nd rfl (Or.inl rfl) (pe_call G_lchoices (hr.mono (by decide)) rfl T.m_lchoices T.F_lchoices.kp T.b_lchoices .nil pass0 (pa_cons (pe_op op_sub (pe_op op_add (pv 3) (pv 4)) pe_int) (pa_cons (pv 4) pa_nil)))))) (pss_one (ps_if (pt_cmpR op_eq (pv 2) pe_int (nomark _)) (pss_cons (ps_set (i := 1) sc_law.nd rfl (Or.inl rfl) (pe_lst (pa_cons (pv 3) (pa_cons (pv 4) pa_nil))))
      (pss_cons (ps_mid (ps_if (pt_cmpR op_eq (pv 4) pe_int (nomark _)) (pss_one (ps_set (i := 1) sc_law.nd rfl (Or.inl rfl) (pe_lst (pa_cons (pv 3) pa_nil)))) pss_nil))
      (pss_cons (ps_set (i := 5) sc_law.nd rfl (Or.inl rfl) (pe_call G_lchoices (hr.mono (by decide)) rfl T.m_lchoices T.F_lchoices.kp T.b_lchoices .nil pass0 (pa_cons (pe_op op_add (pv 3) (pv 4)) (pa_cons (pv 4) pa_nil))))
      (pss_one (ps_if (pt_cmpR op_gt (pv 4) pe_int (nomark _)) (pss_one (ps_set (i := 5) sc_law.nd rfl (Or.inl rfl) (pe_op op_sub (pv 5) (pe_call G_lchoices (hr.mono (by decide)) rfl T.m_lchoices T.F_lchoices.kp T.b_lchoices .nil pass0 (pa_cons (pe_op op_add (pv 3) (pv 4)) (pa_cons (pe_op op_sub (pv 4) pe_int) pa_nil)))))) pss_nil))))) (pss_one (ps_set (i := 5) sc_law.nd rfl (Or.inl rfl) (pe_call G_lcounted (hr.mono (by decide)) rfl T.m_lcounted T.F_lcounted.kp T.b_lcounted .nil pass0 (pa_cons (pv 1) (pa_cons (pe_dispT1 (Nat.lt_of_le_of_lt (Nat.le_add_right _ _) hu) (pps_cons (pe_tup pa_nil) pe_int pps_nil)) pa_nil)))))))))
      (pss_cons (ps_set (i := 6) sc_law.nd rfl (Or.inl rfl) (pe_callTy call_list_of rfl T.z_list boot_list (pa_cons (pv 1) pa_nil)))
      (pss_cons (ps_set (i := 7) sc_law.nd rfl (Or.inl rfl) (pe_call G_fillings (hr.mono (by decide)) rfl T.m_fillings T.F_fillings.kp T.b_fillings .nil pass0 (pa_cons (pv 6) pa_nil)))
      (pss_one (ps_ret (pe_and (pe_call G_lwhole (hr.mono (by decide)) rfl T.m_lwhole T.F_lwhole.kp T.b_lwhole .nil pass0 (pa_cons (pv 7) pa_nil)) (pe_and (pe_cmpR op_eq (pv 7) (pv 5) (nomark _)) (pe_one (pe_cmpR (op_eqL hu) (pv 6) (pv 1) (nomark _)))))))))))))), ?_⟩
  refine ⟨_, rfl, a, ns, 10, 16, rfl, hS, h63, by decide, by decide, by decide, by decide, fun pr r H1 s1 hpr hrow hsum hlen hpr1 => ?_⟩
  refine ⟨_, rfl, a, ns, 100, 6, rfl, s1.seq hS, h63, by decide, by decide, by decide, fun wy wy0 wy1 => ?_⟩
  refine ⟨_, rfl, a, ns, 101, 30, rfl, s1.seq hS, h63, by decide, by decide, by decide, fun x x0 x1 => ⟨_, _, rfl, rfl, ?_⟩⟩
  refine ⟨_, rfl, _, rfl, _, _, rfl, rfl, a, ns, 102, _, rfl, s1.seq hS, h63, by decide, by decide, by omega, fun y y0 y1 => ?_⟩
  obtain ⟨o, ho⟩ : ∃ o : Int, o = 1 + x := ⟨_, rfl⟩
  dsimp only at y1 ⊢
  rw [← ho] at y1 ⊢
  have o1 : 1 ≤ o := by omega
  have o30 : o ≤ 30 := by omega
  refine ⟨fun σ' J' => ∃ (p' : Addr) (r' : List Int), σ' = [some (.ref a), some (.ref p'), some (.int wy), some (.int o), some (.int y), some (.int (fillM r')), none, none] ∧ IsRow r' ∧ r'.sum ≤ 60 ∧ J' p' = some (.lst (r'.map V.int)), ?_, ?_⟩
  rotate_left
  · rintro σ' J' ⟨p', r', rfl, hrow', hsum', hJ⟩
    refine ⟨_, rfl, p', _, rfl, .inl (SqL.of hJ), fun hd hhd => ?_⟩
    have t1 := same_new hhd (.lst (r'.map V.int))
    refine ⟨_, rfl, hd, r', rfl, SqL.of upd_same, hrow', hsum', fun J2 t2 => ?_⟩
    refine ⟨_, rfl, _, rfl, _, rfl, iteT ?_⟩
    refine ⟨_, rfl, _, rfl, rfl, _, rfl, iteB (by rw [decide_eq_true rfl]) ?_⟩
    refine ⟨_, rfl, _, rfl, hd, p', r', r', rfl, rfl, SqL.of (t2 _ _ upd_same), SqL.of ((t1.trans t2) _ _ hJ), ?_⟩
    rw [decide_eq_true rfl]
    exact q _
  refine ⟨_, rfl, rfl, _, rfl, ite2 (fun c => ?_) (fun c => ?_)⟩
  · refine ⟨_, rfl, (by show 1 ≤ sizeLine; decide), fun l1 hl1 => ?_⟩
    obtain ⟨B, hB⟩ : ∃ B, B = upd H1 l1 (.lst [.int o]) := ⟨_, rfl⟩
    have hBl : B l1 = some (.lst [.int o]) := by rw [hB]; exact upd_same
    rw [← hB]
    refine ⟨_, rfl, _, rfl, by omega, by omega, fun D hD => comp_range (lo := 0) (n := y.toNat)
      (fun i ys σ J => ∃ u : Option V, σ = [u] ∧ Same B J ∧ J D = some (.lst ys) ∧ ys = (List.replicate i (1 : Int)).map V.int)
      ⟨none, rfl, same_new hD _, upd_same, rfl⟩ ?_ ?_⟩
    · rintro i ys σ J hi ⟨u, rfl, sJ, hDJ, rfl⟩
      refine ⟨hDJ, by rw [List.length_map, List.length_replicate]; exact small1000 (by omega), _, rfl, same_upd sJ hD, upd_same, ?_⟩
      rw [List.replicate_succ', List.map_append]
      rfl
    rintro ys σ J ⟨u, rfl, sJ, hDJ, rfl⟩
    refine ⟨l1, D, _, _, rfl, rfl, sJ _ _ hBl, hDJ, by rw [List.length_map, List.length_replicate, List.length_singleton]; omega, fun g hg => ?_⟩
    have rr := row_rep o1 y.toNat
    have ef := line_col (o - 1).toNat (by omega) y.toNat (by omega)
    rw [show (((o - 1).toNat : Nat) : Int) + 1 = o by omega, show ((y.toNat : Nat) : Int) = y by omega] at ef
    refine ⟨_, rfl, _, rfl, _, _, rfl, rfl, _, _, rfl, rfl, _, rfl, o + y - 1, y, rfl, by omega, by omega, y0, by omega, ?_⟩
    refine ⟨g, o :: List.replicate y.toNat 1, ?_, rr.1, by rw [rr.2]; omega, by rw [upd_same]; rfl⟩
    rw [ef]
    rfl
  refine ⟨_, rfl, rfl, _, rfl, ite2 (fun c1 => ?_) (fun c1 => ?_)⟩
  · refine ⟨_, rfl, _, rfl, (by show 2 ≤ sizeLine; decide), fun l1 hl1 => ?_⟩
    refine ⟨fun σ' J' => ∃ (p' : Addr), σ' = [some (.ref a), some (.ref p'), some (.int wy), some (.int o), some (.int y), none, none, none] ∧ J' p' = some (.lst ((if y = 0 then [o] else [o, y]).map V.int)), ?_, ?_⟩
    · refine ⟨_, rfl, rfl, _, rfl, ite2 (fun c2 => ?_) (fun c2 => ?_)⟩
      · have c2' : y = 0 := V.int.inj (of_decide_eq_true c2)
        refine ⟨_, rfl, (by show 1 ≤ sizeLine; decide), fun l2 hl2 => ⟨l2, rfl, ?_⟩⟩
        rw [if_pos c2', upd_same]
        rfl
      · have c2' : ¬ y = 0 := fun z => c2 (decide_eq_true (congrArg V.int z))
        refine ⟨l1, rfl, ?_⟩
        rw [if_neg c2', upd_same]
        rfl
    rintro σ' J' ⟨p', rfl, hJ⟩
    refine ⟨_, rfl, _, rfl, _, _, rfl, rfl, _, rfl, o + y, y, rfl, by omega, by omega, y0, by omega, ?_⟩
    refine ⟨_, rfl, _, _, rfl, rfl, _, rfl, ite2 (fun c2 => ?_) (fun c2 => ?_)⟩
    · have c2' : 0 < y := of_decide_eq_true c2
      rw [if_neg (by omega)] at hJ
      have rt := row_two (a := o) (b := y) (by omega) (by omega)
      have ef := two_lines (o - 1).toNat (by omega) (y - 1).toNat (by omega)
      rw [show (((o - 1).toNat : Nat) : Int) + 1 = o by omega, show (((y - 1).toNat : Nat) : Int) + 1 = y by omega, show (y - 1).toNat + 1 = y.toNat by omega] at ef
      refine ⟨_, rfl, _, rfl, _, rfl, _, _, rfl, rfl, _, rfl, _, _, rfl, rfl, o + y, y - 1, rfl, by omega, by omega, by omega, by omega, _, _, rfl, rfl, ?_⟩
      refine ⟨p', [o, y], ?_, rt.1, by rw [rt.2]; omega, hJ⟩
      rw [ef]
      rfl
    · have c2' : ¬ 0 < y := fun z => c2 (decide_eq_true z)
      obtain rfl : y = 0 := by omega
      rw [if_pos rfl] at hJ
      have rr := row_rep o1 0
      have ef := one_line (o - 1).toNat (by omega)
      rw [show (((o - 1).toNat : Nat) : Int) + 1 = o by omega] at ef
      refine ⟨p', [o], ?_, rr.1, by have := rr.2; show o + 0 ≤ 60; omega, hJ⟩
      rw [ef]
      rfl
  · refine ⟨_, rfl, fun p hp => ?_⟩
    have t1 := same_new hp (.dT [])
    refine ⟨(by show 0 ≤ sizeLine; decide), fun l hl => ?_⟩
    have t2 := same_new hl (.tup [])
    refine ⟨t2 _ _ upd_same, l, keyOf [], .int 1, rfl, upd_same, ?_⟩
    have npr : pr ≠ p := ne_of_none hpr1 hp
    refine ⟨pr, p, r, _, rfl, ?_, hrow, hsum, by omega, upd_same, Tab.one, fun J3 kvs' sx hd3 T3 => ?_⟩
    · rw [upd_ne npr]
      exact (t1.trans t2) _ _ hpr1
    · refine ⟨pr, r, rfl, hrow, by omega, sx _ _ npr ?_⟩
      rw [upd_ne npr]
      exact (t1.trans t2) _ _ hpr1

end
theorem len1 {α : Type} {P : List α → Prop} : (∀ a0 : α, P [a0]) → ∀ us : List α, us.length = 1 → P us := by
  intro k us h
  match us, h with
  | [a0], _ => exact k a0
theorem len2 {α : Type} {P : List α → Prop} : (∀ a0 a1 : α, P [a0, a1]) → ∀ us : List α, us.length = 2 → P us := by
  intro k us h
  match us, h with
  | [a0, a1], _ => exact k a0 a1
theorem len3 {α : Type} {P : List α → Prop} : (∀ a0 a1 a2 : α, P [a0, a1, a2]) → ∀ us : List α, us.length = 3 → P us := by
  intro k us h
  match us, h with
  | [a0, a1, a2], _ => exact k a0 a1 a2
theorem all_mk {l : PySem.W.OpenLaw} {w : World} {K : PySem.W.Frag} {h : Heap} {mg : Str → Option Value} {fa f1 f2 f3 f4 f5 f6 f7 f8 f9 f10 f11 f12 : Addr} (X : K.In h) (G : h.Ns mainGlobals mg) (hfa : mg "law" = some (.ref fa))
    {od1 an1 od2 an2 od3 an3 od4 an4 od5 an5 od6 an6 od7 an7 od8 an8 od9 an9 od10 an10 od11 an11 od12 an12 : Option Addr} {sl1 sl2 sl3 sl4 sl5 sl6 sl7 sl8 sl9 sl10 sl11 sl12 : Array (Option Value)} {oc1 kV1 dc1 pm1 cd1 ct1 oc2 kV2 dc2 pm2 cd2 ct2 oc3 kV3 dc3 pm3 cd3 ct3 oc4 kV4 dc4 pm4 cd4 ct4 oc5 kV5 dc5 pm5 cd5 ct5 oc6 kV6 dc6 pm6 cd6 ct6 oc7 kV7 dc7 pm7 cd7 ct7 oc8 kV8 dc8 pm8 cd8 ct8 oc9 kV9 dc9 pm9 cd9 ct9 oc10 kV10 dc10 pm10 cd10 ct10 oc11 kV11 dc11 pm11 cd11 ct11 oc12 kV12 dc12 pm12 cd12 ct12 : Value}
    (a1 : PySem.W.nsIn K mainGlobals "turned" = some (some (.ref f1))) (l1 : K.lookup f1 = some ⟨oc1, od1, .func (PySem.W.fnOf "turned" "turned" (defArgs s_turned) (defBody s_turned) (defScope s_turned) .none kV1 dc1 pm1 an1 cd1 ct1), sl1⟩) (c1 : PySem.W.codeIn K cd1 "turned" = true) (k1 : PySem.W.keepIn K (.ref f1) = true)
    (a2 : PySem.W.nsIn K mainGlobals "lines_at" = some (some (.ref f2))) (l2 : K.lookup f2 = some ⟨oc2, od2, .func (PySem.W.fnOf "lines_at" "lines_at" (defArgs s_lines_at) (defBody s_lines_at) (defScope s_lines_at) .none kV2 dc2 pm2 an2 cd2 ct2), sl2⟩) (c2 : PySem.W.codeIn K cd2 "lines_at" = true) (k2 : PySem.W.keepIn K (.ref f2) = true)
    (a3 : PySem.W.nsIn K mainGlobals "hooks" = some (some (.ref f3))) (l3 : K.lookup f3 = some ⟨oc3, od3, .func (PySem.W.fnOf "hooks" "hooks" (defArgs s_hooks) (defBody s_hooks) (defScope s_hooks) .none kV3 dc3 pm3 an3 cd3 ct3), sl3⟩) (c3 : PySem.W.codeIn K cd3 "hooks" = true) (k3 : PySem.W.keepIn K (.ref f3) = true)
    (a4 : PySem.W.nsIn K mainGlobals "line_hooks" = some (some (.ref f4))) (l4 : K.lookup f4 = some ⟨oc4, od4, .func (PySem.W.fnOf "line_hooks" "line_hooks" (defArgs s_line_hooks) (defBody s_line_hooks) (defScope s_line_hooks) .none kV4 dc4 pm4 an4 cd4 ct4), sl4⟩) (c4 : PySem.W.codeIn K cd4 "line_hooks" = true) (k4 : PySem.W.keepIn K (.ref f4) = true)
    (a5 : PySem.W.nsIn K mainGlobals "fillings" = some (some (.ref f5))) (l5 : K.lookup f5 = some ⟨oc5, od5, .func (PySem.W.fnOf "fillings" "fillings" (defArgs s_fillings) (defBody s_fillings) (defScope s_fillings) .none kV5 dc5 pm5 an5 cd5 ct5), sl5⟩) (c5 : PySem.W.codeIn K cd5 "fillings" = true) (k5 : PySem.W.keepIn K (.ref f5) = true)
    (a6 : PySem.W.nsIn K mainGlobals "product_to" = some (some (.ref f6))) (l6 : K.lookup f6 = some ⟨oc6, od6, .func (PySem.W.fnOf "product_to" "product_to" (defArgs s_product_to) (defBody s_product_to) (defScope s_product_to) .none kV6 dc6 pm6 an6 cd6 ct6), sl6⟩) (c6 : PySem.W.codeIn K cd6 "product_to" = true) (k6 : PySem.W.keepIn K (.ref f6) = true)
    (a7 : PySem.W.nsIn K mainGlobals "_law_drawn" = some (some (.ref f7))) (l7 : K.lookup f7 = some ⟨oc7, od7, .func (PySem.W.fnOf "_law_drawn" "_law_drawn" (defArgs s_ldrawn) (defBody s_ldrawn) (defScope s_ldrawn) .none kV7 dc7 pm7 an7 cd7 ct7), sl7⟩) (c7 : PySem.W.codeIn K cd7 "_law_drawn" = true) (k7 : PySem.W.keepIn K (.ref f7) = true)
    (a8 : PySem.W.nsIn K mainGlobals "_law_whole" = some (some (.ref f8))) (l8 : K.lookup f8 = some ⟨oc8, od8, .func (PySem.W.fnOf "_law_whole" "_law_whole" (defArgs s_lwhole) (defBody s_lwhole) (defScope s_lwhole) .none kV8 dc8 pm8 an8 cd8 ct8), sl8⟩) (c8 : PySem.W.codeIn K cd8 "_law_whole" = true) (k8 : PySem.W.keepIn K (.ref f8) = true)
    (a9 : PySem.W.nsIn K mainGlobals "_law_row_by" = some (some (.ref f9))) (l9 : K.lookup f9 = some ⟨oc9, od9, .func (PySem.W.fnOf "_law_row_by" "_law_row_by" (defArgs s_lrow_by) (defBody s_lrow_by) (defScope s_lrow_by) .none kV9 dc9 pm9 an9 cd9 ct9), sl9⟩) (c9 : PySem.W.codeIn K cd9 "_law_row_by" = true) (k9 : PySem.W.keepIn K (.ref f9) = true)
    (a10 : PySem.W.nsIn K mainGlobals "_law_counted" = some (some (.ref f10))) (l10 : K.lookup f10 = some ⟨oc10, od10, .func (PySem.W.fnOf "_law_counted" "_law_counted" (defArgs s_lcounted) (defBody s_lcounted) (defScope s_lcounted) .none kV10 dc10 pm10 an10 cd10 ct10), sl10⟩) (c10 : PySem.W.codeIn K cd10 "_law_counted" = true) (k10 : PySem.W.keepIn K (.ref f10) = true)
    (a11 : PySem.W.nsIn K mainGlobals "_law_choices" = some (some (.ref f11))) (l11 : K.lookup f11 = some ⟨oc11, od11, .func (PySem.W.fnOf "_law_choices" "_law_choices" (defArgs s_lchoices) (defBody s_lchoices) (defScope s_lchoices) .none kV11 dc11 pm11 an11 cd11 ct11), sl11⟩) (c11 : PySem.W.codeIn K cd11 "_law_choices" = true) (k11 : PySem.W.keepIn K (.ref f11) = true)
    (a12 : PySem.W.nsIn K mainGlobals "law" = some (some (.ref f12))) (l12 : K.lookup f12 = some ⟨oc12, od12, .func (PySem.W.fnOf "law" "law" (defArgs s_law) (defBody s_law) (defScope s_law) .none kV12 dc12 pm12 an12 cd12 ct12), sl12⟩) (c12 : PySem.W.codeIn K cd12 "law" = true) (k12 : PySem.W.keepIn K (.ref f12) = true)
    (z_bool : PySem.W.nsIn K mainGlobals "bool" = some none) (z_int : PySem.W.nsIn K mainGlobals "int" = some none) (z_isinstance : PySem.W.nsIn K mainGlobals "isinstance" = some none) (z_len : PySem.W.nsIn K mainGlobals "len" = some none) (z_list : PySem.W.nsIn K mainGlobals "list" = some none) (z_max : PySem.W.nsIn K mainGlobals "max" = some none) (z_min : PySem.W.nsIn K mainGlobals "min" = some none) (z_range : PySem.W.nsIn K mainGlobals "range" = some none) (z_sum : PySem.W.nsIn K mainGlobals "sum" = some none) (z_tuple : PySem.W.nsIn K mainGlobals "tuple" = some none) :
    ∃ fd : FuncData, (∀ (s : Shared) (v : Value), BindsTo s fd ⟨[v], []⟩ [("script", v)]) ∧ ∀ base : Heap, K.In base → base.Ns mainGlobals mg → FnOk l.prog w K mg base CX0 20 fa fd ["script"] (spLaw K) := by
  have e := hfa.symm.trans (PySem.W.mg_of X G a12)
  cases e
  have F1 := fun_mk (st := s_turned) l1 c1 k1
  have F2 := fun_mk (st := s_lines_at) l2 c2 k2
  have F3 := fun_mk (st := s_hooks) l3 c3 k3
  have F4 := fun_mk (st := s_line_hooks) l4 c4 k4
  have F5 := fun_mk (st := s_fillings) l5 c5 k5
  have F6 := fun_mk (st := s_product_to) l6 c6 k6
  have F7 := fun_mk (st := s_ldrawn) l7 c7 k7
  have F8 := fun_mk (st := s_lwhole) l8 c8 k8
  have F9 := fun_mk (st := s_lrow_by) l9 c9 k9
  have F10 := fun_mk (st := s_lcounted) l10 c10 k10
  have F11 := fun_mk (st := s_lchoices) l11 c11 k11
  have F12 := fun_mk (st := s_law) l12 c12 k12
  have b1 := F1.binds (ps := ["row"]) fun _ _ _ _ _ _ => len1 fun _ => rfl
  have b2 := F2.binds (ps := ["row", "place"]) fun _ _ _ _ _ _ => len2 fun _ _ => rfl
  have b3 := F3.binds (ps := ["row"]) fun _ _ _ _ _ _ => len1 fun _ => rfl
  have b4 := F4.binds (ps := ["row", "columns", "line"]) fun _ _ _ _ _ _ => len3 fun _ _ _ => rfl
  have b5 := F5.binds (ps := ["row"]) fun _ _ _ _ _ _ => len1 fun _ => rfl
  have b6 := F6.binds (ps := ["number"]) fun _ _ _ _ _ _ => len1 fun _ => rfl
  have b7 := F7.binds (ps := ["script", "k", "many"]) fun _ _ _ _ _ _ => len3 fun _ _ _ => rfl
  have b8 := F8.binds (ps := ["found"]) fun _ _ _ _ _ _ => len1 fun _ => rfl
  have b9 := F9.binds (ps := ["script", "base", "most"]) fun _ _ _ _ _ _ => len3 fun _ _ _ => rfl
  have b10 := F10.binds (ps := ["row", "table"]) fun _ _ _ _ _ _ => len2 fun _ _ => rfl
  have b11 := F11.binds (ps := ["many", "some"]) fun _ _ _ _ _ _ => len2 fun _ _ => rfl
  exact ⟨PySem.W.fnOf "law" "law" (defArgs s_law) (defBody s_law) (defScope s_law) .none kV12 dc12 pm12 an12 cd12 ct12, fun s v => .of_eq rfl, fun base _ _ => ok_law F12 ⟨F1, PySem.W.mg_of X G a1, b1, F2, PySem.W.mg_of X G a2, b2, F3, PySem.W.mg_of X G a3, b3, F4, PySem.W.mg_of X G a4, b4, F5, PySem.W.mg_of X G a5, b5, F6, PySem.W.mg_of X G a6, b6, F7, PySem.W.mg_of X G a7, b7, F8, PySem.W.mg_of X G a8, b8, F9, PySem.W.mg_of X G a9, b9, F10, PySem.W.mg_of X G a10, b10, F11, PySem.W.mg_of X G a11, b11, PySem.W.mg_none_of X G z_bool, PySem.W.mg_none_of X G z_int, PySem.W.mg_none_of X G z_isinstance, PySem.W.mg_none_of X G z_len, PySem.W.mg_none_of X G z_list, PySem.W.mg_none_of X G z_max, PySem.W.mg_none_of X G z_min, PySem.W.mg_none_of X G z_range, PySem.W.mg_none_of X G z_sum, PySem.W.mg_none_of X G z_tuple⟩⟩
theorem walk {l : PySem.W.OpenLaw} {q : Program} {loose : List Str} {XP : (Str → Option Value) → Heap → Prop} {YP : World → Heap → Prop} {d : DefRec} {K : Params → PySem.W.Frag} (hn : l.most = some 63) (hdf : d.params.defaults = [])
    (hY : ∀ (w : World) (h : Heap), YP w h → (K w.params).In h)
    (F : ∀ (w : World) (mg : Str → Option Value) (fa : Addr) (h : Heap), (K w.params).In h → h.Ns mainGlobals mg → mg d.name = some (.ref fa) →
      ∃ fd : FuncData, (∀ (s : Shared) (u : Value), BindsTo s fd ⟨[u], []⟩ [("script", u)]) ∧ ∀ base : Heap, (K w.params).In base → base.Ns mainGlobals mg → FnOk l.prog w (K w.params) mg base CX0 20 fa fd ["script"] (spLaw (K w.params))) :
    PySem.W.WalkO q loose XP YP l.row.toRowW d [] (fun f vs => PySem.call f vs) :=
  L2.walk_of (n := 63) (k := 20) (x := "script") (CX := fun _ => CX0) (sp := fun w => spLaw (K w.params)) hn (by decide) hdf ⟨rfl, by decide, by decide⟩ hY F (fun _ _ a ns hl _ hS => ⟨a, ns, rfl, hS, hl, fun _ => rfl⟩) fun _ _ _ _ _ z => z
end Rb
open PySem PySem.W PyProof.Rows
set_option maxRecDepth 100000 in
set_option maxHeartbeats 0 in
theorem PySem.Challenge.cw_rodbeads_k15_fillings_holds : PySem.Challenge.rw_rodbeads_k15_fillings.Holds := by
  w_on; o_law; k_head; (case hw => w_witness2)
  k_fill
  refine Rb.walk (l := PySem.Challenge.rw_rodbeads_k15_fillings) rfl rfl (fun w h Y => PySem.W.kIn_of Y) ?F
  case F =>
    intro w mg fa h KX G hmg
    refine' Rb.all_mk KX G hmg ?a1 ?l1 ?c1 ?k1 ?a2 ?l2 ?c2 ?k2 ?a3 ?l3 ?c3 ?k3 ?a4 ?l4 ?c4 ?k4 ?a5 ?l5 ?c5 ?k5 ?a6 ?l6 ?c6 ?k6 ?a7 ?l7 ?c7 ?k7 ?a8 ?l8 ?c8 ?k8 ?a9 ?l9 ?c9 ?k9 ?a10 ?l10 ?c10 ?k10 ?a11 ?l11 ?c11 ?k11 ?a12 ?l12 ?c12 ?k12 ?z_bool ?z_int ?z_isinstance ?z_len ?z_list ?z_max ?z_min ?z_range ?z_sum ?z_tuple
    (case a1 => k_is); (case l1 => k_is); (case c1 => k_is); (case k1 => k_is)
    (case a2 => k_is); (case l2 => k_is); (case c2 => k_is); (case k2 => k_is)
    (case a3 => k_is); (case l3 => k_is); (case c3 => k_is); (case k3 => k_is)
    (case a4 => k_is); (case l4 => k_is); (case c4 => k_is); (case k4 => k_is)
    (case a5 => k_is); (case l5 => k_is); (case c5 => k_is); (case k5 => k_is)
    (case a6 => k_is); (case l6 => k_is); (case c6 => k_is); (case k6 => k_is)
    (case a7 => k_is); (case l7 => k_is); (case c7 => k_is); (case k7 => k_is)
    (case a8 => k_is); (case l8 => k_is); (case c8 => k_is); (case k8 => k_is)
    (case a9 => k_is); (case l9 => k_is); (case c9 => k_is); (case k9 => k_is)
    (case a10 => k_is); (case l10 => k_is); (case c10 => k_is); (case k10 => k_is)
    (case a11 => k_is); (case l11 => k_is); (case c11 => k_is); (case k11 => k_is)
    (case a12 => k_is); (case l12 => k_is); (case c12 => k_is); (case k12 => k_is)
    (case z_bool => k_is)
    (case z_int => k_is)
    (case z_isinstance => k_is)
    (case z_len => k_is)
    (case z_list => k_is)
    (case z_max => k_is)
    (case z_min => k_is)
    (case z_range => k_is)
    (case z_sum => k_is)
    (case z_tuple => k_is)

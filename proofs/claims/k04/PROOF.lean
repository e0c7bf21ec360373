import PyProof.Rows.All
import Wide.All
import OpenK.AllK
import Wide.FinOn
import Lean
import PyProof.EqAt
import PyProof.EqKinds
import PyProof.TupleCall
import KE.KTryMore
import PyProof.ExcArgsOwn
import KE.KIntText
import PyProof.Rows.StrNews
import PyProof.Rows.StrWeight2
import PyProof.StrLawsTight
import PyProof.StrLawsChain
import PyProof.Rows.Range3
import PyProof.ZipIter
import PyProof.Rows.SortShell
import PyProof.Rows.SumAny
import PyProof.NoPylong
import PyProof.SetKind
import PyProof.Rows.SetFrom
import PySem.Challenge.RW_rodbeads_k04_places_of_beads
set_option Elab.async false
set_option linter.all false
set_option maxRecDepth 100000
namespace L2
open PySem PySem.Spec PyProof.Rows

abbrev Key := Sum Int Str
def keyIs : Key → Value → Bool
  | .inl k, v => Value.isInt k v
  | .inr x, v => Value.isStrOf x v
def keyH (w : World) : Key → Int
  | .inl k => hashInt k
  | .inr x => hashStr w x
theorem keyIs_shape : ∀ {k : Key} {v : Value}, keyIs k v = true → (∃ i t, k = Sum.inl i ∧ v = Value.int i t) ∨ (∃ x t, k = Sum.inr x ∧ v = Value.str x t)
  | .inl i, v, h => by
    obtain ⟨t, e⟩ := Value.isInt_shape (k := i) (v := v) h
    exact .inl ⟨i, t, rfl, e⟩
  | .inr x, v, h => by
    obtain ⟨t, e⟩ := Value.isStrOf_shape (x := x) (v := v) h
    exact .inr ⟨x, t, rfl, e⟩
theorem key_ll (a b : Int) : decide ((Sum.inl a : Key) = Sum.inl b) = (a == b) := by
  by_cases e : a = b
  · subst e; simp
  · have h : ¬ (Sum.inl a : Key) = Sum.inl b := fun q => e (Sum.inl.inj q)
    rw [decide_eq_false h]
    exact (beq_eq_false_iff_ne.mpr e).symm
theorem key_rr (a b : Str) : decide ((Sum.inr a : Key) = Sum.inr b) = decide (a = b) := by
  by_cases e : a = b
  · subst e; simp
  · have h : ¬ (Sum.inr a : Key) = Sum.inr b := fun q => e (Sum.inr.inj q)
    rw [decide_eq_false h, decide_eq_false e]
theorem key_lr (a : Int) (b : Str) : decide ((Sum.inl a : Key) = Sum.inr b) = false := decide_eq_false (fun q => nomatch q)
theorem key_rl (a : Str) (b : Int) : decide ((Sum.inr a : Key) = Sum.inl b) = false := decide_eq_false (fun q => nomatch q)

def mixKind (prog : Program) (w : World) : PySem.KeyKind prog w Key where
  is := keyIs
  hash := keyH w
  inj := fun v a b ha hb => by
    rcases keyIs_shape ha with ⟨i, t, rfl, rfl⟩ | ⟨x, t, rfl, rfl⟩
    · rcases keyIs_shape hb with ⟨j, u, rfl, e⟩ | ⟨y, u, rfl, e⟩
      · injection e with e1 _; rw [e1]
      · exact nomatch e
    · rcases keyIs_shape hb with ⟨j, u, rfl, e⟩ | ⟨y, u, rfl, e⟩
      · exact nomatch e
      · injection e with e1 _; rw [e1]
  byValue := fun k v h => by
    rcases keyIs_shape h with ⟨i, t, rfl, rfl⟩ | ⟨x, t, rfl, rfl⟩ <;> rfl
  pyHash := fun hv h => by
    rcases keyIs_shape hv with ⟨i, t, rfl, rfl⟩ | ⟨x, t, rfl, rfl⟩
    · exact wpAny_pyHash_int h
    · exact wpAny_pyHash_str h
  eqBool := fun hu hv h => by
    rcases keyIs_shape hu with ⟨i, t, rfl, rfl⟩ | ⟨x, t, rfl, rfl⟩
    · rcases keyIs_shape hv with ⟨j, u, rfl, rfl⟩ | ⟨y, u, rfl, rfl⟩
      · rw [key_ll] at h; exact wpAny_eqBool_int h
      · rw [key_lr] at h; exact SeqAt.EqAt.int_str i t y u _ _ _ _ h
    · rcases keyIs_shape hv with ⟨j, u, rfl, rfl⟩ | ⟨y, u, rfl, rfl⟩
      · rw [key_rl] at h; exact SeqAt.EqAt.str_int x t j u _ _ _ _ h
      · rw [key_rr] at h; exact wpAny_eqBool_str h
  «strs» := fun k x t v h => by
    rcases keyIs_shape h with ⟨i, u, rfl, e⟩ | ⟨y, u, rfl, e⟩
    · exact nomatch e
    · injection e with e1 _
      subst e1
      cases v <;> rfl

end L2

namespace L2
open PySem PySem.Spec PyProof.Rows

inductive V where
  | non | bl (b : Bool) | int (i : Int) | str (x : Str) | byt (b : Array UInt8) | flt (b : UInt64) | ref (a : Addr) | ty (n : String)
  deriving DecidableEq

def RelV : V → Value → Prop
  | .non, u => u = Value.none
  | .bl b, u => u = Value.bool b
  | .int i, u => ∃ t, u = Value.int i t
  | .str x, u => ∃ t, u = Value.str x t
  | .byt b, u => ∃ t, u = Value.bytes b t
  | .flt b, u => ∃ t, u = Value.float b t
  | .ref a, u => u = Value.ref a
  | .ty n, u => u = Value.type n

abbrev Vals : List V → List Value → Prop := Paired RelV
theorem Vals.length {xs : List V} {us : List Value} (r : Vals xs us) : xs.length = us.length := Paired.length r
theorem Vals.get : ∀ {xs : List V} {us : List Value} {i : Nat} {x : V}, Vals xs us → xs[i]? = some x → ∃ u, us[i]? = some u ∧ RelV x u
  | _, _, _, _, .nil, e => by simp at e
  | _, _, 0, _, .cons r _, e => by simp at e; subst e; exact ⟨_, rfl, r⟩
  | _, _, i + 1, x, .cons _ t, e => by
    obtain ⟨u, h1, h2⟩ := Vals.get (i := i) (x := x) t (by simpa using e)
    exact ⟨u, by simpa using h1, h2⟩
theorem Vals.set {x : V} {u : Value} (r : RelV x u) : ∀ {xs : List V} {us : List Value} (i : Nat), Vals xs us → Vals (xs.set i x) (us.set i u)
  | _, _, _, .nil => .nil
  | _, _, 0, .cons _ t => .cons r t
  | _, _, i + 1, .cons q t => .cons q (Vals.set r i t)
theorem Vals.append : ∀ {xs ys : List V} {us ws : List Value}, Vals xs us → Vals ys ws → Vals (xs ++ ys) (us ++ ws)
  | _, _, _, _, .nil, s => s
  | _, _, _, _, .cons r t, s => .cons r (Vals.append t s)
theorem Vals.take : ∀ {xs : List V} {us : List Value} (n : Nat), Vals xs us → Vals (xs.take n) (us.take n)
  | _, _, 0, _ => .nil
  | _, _, _ + 1, .nil => .nil
  | _, _, n + 1, .cons r t => .cons r (Vals.take n t)
theorem Vals.drop : ∀ {xs : List V} {us : List Value} (n : Nat), Vals xs us → Vals (xs.drop n) (us.drop n)
  | _, _, 0, r => r
  | _, _, _ + 1, .nil => .nil
  | _, _, n + 1, .cons _ t => Vals.drop n t
def RelO : Option V → Option Value → Prop
  | some v, some u => RelV v u
  | none, none => True
  | _, _ => False
def KV {κ : Type} : List (κ × V) → List (κ × Value) → Prop := Paired fun (p : κ × V) (q : κ × Value) => p.1 = q.1 ∧ RelV p.2 q.2

def kV : Key → V
  | .inl i => .int i
  | .inr x => .str x

inductive HO where
  /-- a list -/
  | lst (xs : List V)
  /-- a tuple (never changes) -/
  | tup (xs : List V)
  /-- a dict whose keys are ints and texts; one whose keys are tuples of ints and texts (the empty one is both) -/
  | dK (kvs : List (Key × V)) | dT (kvs : List (List Key × V))
  /-- a set of ints: its members, its size -/
  | set (S : Int → Bool) (n : Nat)
  /-- an instance of the class at C, its dict at dx, its attributes -/
  | ins (C dx : Addr) (fs : List (Str × V))
  /-- the dict of the instance at x -/
  | own (x : Addr)
  /-- the dict of an exception -/
  | xd (fs : List (Str × V))
  /-- a bound method, f of x -/
  | met (f x : Addr)
  /-- a range object lo, lo + 1, .. below hi -/
  | rng (lo hi : Int)
  /-- a thing that is known to the object (the script; a dict while a loop walks it): read, never written while it is so -/
  | frz (o : Obj) (u : HO)
  /-- a code object's table -/
  | tbl (ps : Array Value)
  /-- any other thing, by what is true of its one object (a def of one's own: SetO a S n := HO.ext fun h => ..) -/
  | ext (φ : Heap → Prop)

abbrev Hp := Addr → Option HO
def upd (H : Hp) (a : Addr) (o : HO) : Hp := fun b => if b = a then some o else H b
theorem upd_same {H : Hp} {a : Addr} {o : HO} : upd H a o a = some o := by unfold upd; rw [if_pos rfl]
theorem upd_ne {H : Hp} {a b : Addr} {o : HO} (h : b ≠ a) : upd H a o b = H b := by unfold upd; rw [if_neg h]
theorem ne_of {H : Hp} {a b : Addr} {o u : HO} (h : H a = some o) (h' : H b = some u) (d : o ≠ u) : a ≠ b := by
  intro e; subst e; rw [h] at h'; exact d (Option.some.inj h')
theorem ne_of_none {H : Hp} {a b : Addr} {o : HO} (h : H a = some o) (h' : H b = none) : a ≠ b := by
  intro e; subst e; rw [h] at h'; cases h'

section
variable (P : Program) (w : World)
def ObjOk (H : Hp) (h : Heap) (a : Addr) : HO → Prop
  | .lst xs => xs.length ≤ sizeLine ∧ ∃ (its : List Value) (n : Nat), Vals xs its ∧ h.get? a = some { cls := .type "list", data := .seq its.toArray n }
  | .tup xs => xs.length ≤ sizeLine ∧ ∃ its : List Value, Vals xs its ∧ IsTup h a its.toArray
  | .dK kvs => kvs.length ≤ sizeLine ∧ (a == sysModules) = false ∧ ∃ vs, KV kvs vs ∧ h.DictOf (mixKind P w) a vs
  | .dT kvs => kvs.length ≤ sizeLine ∧ (a == sysModules) = false ∧ ∃ xs : List (List Key × Addr × Value),
      Paired (fun (p : List Key × V) (q : List Key × Addr × Value) => p.1 = q.1 ∧ H q.2.1 = some (.tup (p.1.map kV)) ∧ RelV p.2 q.2.2) kvs xs ∧
      ∃ o es ep, h.get? a = some o ∧ o.ExactDict ∧ o.data = .dict es ep ∧ es.toList = xs.map (entryOfKey (tupleKind (mixKind P w))) ∧ (xs.map (·.1)).Nodup
  | .set S n => h.SetOf (intKind P w) a S n
  | .ins C dx fs => H dx = some (.own a) ∧ fs.length ≤ 1000 ∧ dx ≠ a ∧ h.get? a = some (PySem.W.instObj C dx) ∧
      ∃ mA, h.Ns1 dx mA ∧ (∀ f, RelO (fs.lookup f) (mA f)) ∧ PySem.Within mA (fs.map (·.1))
  | .own _ => ∃ o, h.get? a = some o
  | .xd fs => ∃ mA, h.Ns1 a mA ∧ ∀ f, RelO (fs.lookup f) (mA f)
  | .rng lo hi => ∃ t u v, h.get? a = some { cls := .type "range", data := .fields #[.int lo t, .int hi u, .int 1 v] }
  | .frz o u => h.get? a = some o ∧ ObjOk H h a u
  | .tbl ps => h.get? a = some { cls := .none, data := .fields ps }
  | .met f x => h.get? a = some (PySem.W.methodObj (.ref f) (.ref x))
  | .ext φ => φ h ∧ (∃ o, h.get? a = some o) ∧ ∀ h1 h2 : Heap, φ h1 → (∀ o, h1.get? a = some o → h2.get? a = some o) → φ h2
def HOk (H : Hp) (h : Heap) : Prop := ∀ a o, H a = some o → ObjOk P w H h a o
end

section
variable {P : Program} {w : World} {H H' : Hp} {h h' : Heap} {a : Addr} {o : HO}
theorem ObjOk.lt (x : ObjOk P w H h a o) : a < h.objs.size := by
  cases o with
  | lst xs => obtain ⟨_, _, _, _, e⟩ := x; exact Heap.lt_size e
  | tup xs => obtain ⟨_, _, _, p⟩ := x; exact p.lt
  | dK kvs => obtain ⟨_, _, _, _, o, _, _, e, _⟩ := x; exact Heap.lt_size e
  | dT kvs => obtain ⟨_, _, _, _, o, _, _, e, _⟩ := x; exact Heap.lt_size e
  | set S n => obtain ⟨o, _, _, _, e, _⟩ := x; exact Heap.lt_size e
  | ins C dx fs => obtain ⟨_, _, _, e, _⟩ := x; exact Heap.lt_size e
  | own y => obtain ⟨_, e⟩ := x; exact Heap.lt_size e
  | xd fs => obtain ⟨_, ⟨_, _, _, e, _⟩, _⟩ := x; exact Heap.lt_size e
  | rng lo hi => obtain ⟨_, _, _, e⟩ := x; exact Heap.lt_size e
  | frz ob u => obtain ⟨e, _⟩ := x; exact Heap.lt_size e
  | tbl ps => exact Heap.lt_size (show h.get? a = some _ from x)
  | met f y => exact Heap.lt_size (show h.get? a = some _ from x)
  | ext φ => obtain ⟨_, ⟨_, e⟩, _⟩ := x; exact Heap.lt_size e
theorem Paired.mapP {α β : Type} {F G : α → β → Prop} : ∀ {l₁ : List α} {l₂ : List β}, Paired F l₁ l₂ → (∀ a b, F a b → G a b) → Paired G l₁ l₂
  | _, _, .nil, _ => .nil
  | _, _, .cons r t, f => .cons (f _ _ r) (Paired.mapP t f)
theorem ObjOk.stay (x : ObjOk P w H h a o) (k : ∀ b u, (b = a ∨ H b = some (.own a)) → h.get? b = some u → h'.get? b = some u)
    (ho : ∀ b, H b = some (.own a) → H' b = some (.own a)) (ht : ∀ b xs, H b = some (.tup xs) → H' b = some (.tup xs)) : ObjOk P w H' h' a o := by
  induction o with
  | lst xs => obtain ⟨z, its, n, r, e⟩ := x; exact ⟨z, its, n, r, k _ _ (.inl rfl) e⟩
  | tup xs => obtain ⟨z, its, r, ob, e, c⟩ := x; exact ⟨z, its, r, ob, k _ _ (.inl rfl) e, c⟩
  | dK kvs => obtain ⟨z, y, vs, r, ob, es, ep, e, c⟩ := x; exact ⟨z, y, vs, r, ob, es, ep, k _ _ (.inl rfl) e, c⟩
  | dT kvs =>
    obtain ⟨z, y, xs, r, ob, es, ep, e, c⟩ := x
    exact ⟨z, y, xs, Paired.mapP r fun p q z => ⟨z.1, ht _ _ z.2.1, z.2.2⟩, ob, es, ep, k _ _ (.inl rfl) e, c⟩
  | set S n => obtain ⟨ob, es, ep, t, e, c⟩ := x; exact ⟨ob, es, ep, t, k _ _ (.inl rfl) e, c⟩
  | ins C dx fs =>
    obtain ⟨d, z, ne, e, mA, ⟨od, es, ep, e2, c⟩, r⟩ := x
    exact ⟨ho _ d, z, ne, k _ _ (.inl rfl) e, mA, ⟨od, es, ep, k _ _ (.inr d) e2, c⟩, r⟩
  | own y => obtain ⟨ob, e⟩ := x; exact ⟨ob, k _ _ (.inl rfl) e⟩
  | xd fs => obtain ⟨mA, ⟨od, es, ep, e, c⟩, r⟩ := x; exact ⟨mA, ⟨od, es, ep, k _ _ (.inl rfl) e, c⟩, r⟩
  | rng lo hi => obtain ⟨t, u, v, e⟩ := x; exact ⟨t, u, v, k _ _ (.inl rfl) e⟩
  | frz ob u ih => obtain ⟨e, q⟩ := x; exact ⟨k _ _ (.inl rfl) e, ih q⟩
  | tbl ps =>
    have e : h.get? a = some { cls := .none, data := .fields ps } := x
    show h'.get? a = some { cls := .none, data := .fields ps }
    exact k a _ (.inl rfl) e
  | met f y =>
    have e : h.get? a = some (PySem.W.methodObj (.ref f) (.ref y)) := x
    show h'.get? a = some (PySem.W.methodObj (.ref f) (.ref y))
    exact k a _ (.inl rfl) e
  | ext φ => obtain ⟨p, ⟨o, e⟩, st⟩ := x; exact ⟨st _ _ p fun o q => k _ _ (.inl rfl) q, ⟨o, k _ _ (.inl rfl) e⟩, st⟩
theorem HOk.lt (x : HOk P w H h) (e : H a = some o) : a < h.objs.size := (x a o e).lt
theorem HOk.fresh (x : HOk P w H h) (e : h.objs.size ≤ a) : H a = none := by
  cases q : H a with
  | none => rfl
  | some u => exact absurd (Nat.lt_of_lt_of_le (x.lt q) e) (Nat.lt_irrefl _)
theorem HOk.kept (x : HOk P w H h) (k : ∀ b u, h.get? b = some u → h'.get? b = some u) : HOk P w H h' := fun a o e =>
  (x a o e).stay (fun b u _ q => k b u q) (fun _ q => q) fun _ _ q => q
theorem HOk.laid (x : HOk P w H h) (k : ∀ b u, h.get? b = some u → h'.get? b = some u) (hp : h.objs.size ≤ a) (new : ObjOk P w (upd H a o) h' a o) : HOk P w (upd H a o) h' := fun b u e => by
  have hn := x.fresh hp
  by_cases hb : b = a
  · subst hb; rw [upd_same] at e; cases e; exact new
  · rw [upd_ne hb] at e
    exact (x b u e).stay (fun c v _ q => k c v q) (fun c q => by rw [upd_ne (ne_of_none q hn)]; exact q) fun c xs q => by rw [upd_ne (ne_of_none q hn)]; exact q
end

def Rd (H : Hp) (a : Addr) (u : HO) : Prop := H a = some u ∨ ∃ o, H a = some (.frz o u)
theorem Rd.ok {P : Program} {w : World} {H : Hp} {h : Heap} {a : Addr} {u : HO} (r : Rd H a u) (x : HOk P w H h) : ObjOk P w H h a u := by
  rcases r with r | ⟨o, r⟩
  · exact x a u r
  · obtain ⟨_, q⟩ := x a _ r
    exact q
def Mut : Option HO → Prop
  | some (.lst _) => True
  | some (.dK _) => True
  | some (.dT _) => True
  | some (.set _ _) => True
  | some (.ins _ _ _) => True
  | some (.ext _) => True
  | _ => False
section
variable {P : Program} {w : World} {H : Hp} {h h' : Heap} {x e : Addr} {o' : HO}
theorem HOk.write (ok : HOk P w H h) (mu : Mut (H x)) (he : e = x ∨ H e = some (.own x)) (k : ∀ b u, b ≠ e → h.get? b = some u → h'.get? b = some u) (heo : ∃ u, h'.get? e = some u)
    (new : ObjOk P w (upd H x o') h' x o') : HOk P w (upd H x o') h' := fun b u q => by
  have nown : ∀ c y, H c = some (.own y) → c ≠ x := fun c y r z => by subst z; rw [r] at mu; exact mu
  have ntup : ∀ c xs, H c = some (.tup xs) → c ≠ x := fun c xs r z => by subst z; rw [r] at mu; exact mu
  by_cases hb : b = x
  · subst hb; rw [upd_same] at q; cases q; exact new
  · rw [upd_ne hb] at q
    by_cases hbe : b = e
    · have q' : H b = some (.own x) := by
        rcases he with z | z
        · exact absurd (hbe.trans z) hb
        · rw [hbe]; exact z
      rw [q] at q'; cases q'
      obtain ⟨v, hv⟩ := heo
      exact ⟨v, by rw [hbe]; exact hv⟩
    · refine (ok b u q).stay (fun c v hc r => k c v ?_ r) (fun c r => by rw [upd_ne (nown c b r)]; exact r) fun c xs r => by rw [upd_ne (ntup c xs r)]; exact r
      rcases hc with rfl | hc
      · exact hbe
      · rintro rfl
        rcases he with z | z
        · exact nown c b hc z
        · rw [hc] at z; cases z; exact hb rfl
end

structure Un (fs ex : List Addr) (H H' : Hp) (h h' : Heap) : Prop where
  keep : ∀ b o, h.get? b = some o → H b = none → b ∉ fs → b ∉ ex → h'.get? b = some o
  slot : ∀ b o, h.get? b = some o → H b = none → b ∈ fs → b ∉ ex → ∃ sl, h'.get? b = some { o with slots := sl }
  free : ∀ b o, h.get? b = some o → H b = none → b ∉ ex → H' b = none
  there : ∀ b o, h.get? b = some o → b ∉ ex → ∃ o', h'.get? b = some o'
  tups : ∀ b xs, H b = some (.tup xs) → H' b = some (.tup xs)
  frzs : ∀ b o u, H b = some (.frz o u) → H' b = some (.frz o u)
  tbls : ∀ b ps, H b = some (.tbl ps) → ∃ more, H' b = some (.tbl (ps ++ more))
section
variable {fs fs' ex ex' : List Addr} {H H1 H2 : Hp} {h h1 h2 h' : Heap} {a x e : Addr} {o : HO}
theorem Un.any (u : Un fs ex H H1 h h1) {b : Addr} {ob : Obj} (q : h.get? b = some ob) (n : H b = none) (hx : b ∉ ex) : ∃ sl, h1.get? b = some { ob with slots := sl } := by
  by_cases hb : b ∈ fs
  · exact u.slot b ob q n hb hx
  · exact ⟨ob.slots, u.keep b ob q n hb hx⟩
theorem Un.kept (k : ∀ b u, h.get? b = some u → h'.get? b = some u) : Un fs ex H H h h' :=
  ⟨fun b ob q _ _ _ => k b ob q, fun b ob q _ _ _ => ⟨ob.slots, k b ob q⟩, fun _ _ _ n _ => n, fun b ob q _ => ⟨ob, k b ob q⟩, fun _ _ q => q, fun _ _ _ q => q, fun _ ps q => ⟨#[], by rw [q]; simp⟩⟩
theorem Un.refl : Un fs ex H H h h := Un.kept fun _ _ q => q
theorem Un.laid (k : ∀ b u, h.get? b = some u → h'.get? b = some u) (hp : h.objs.size ≤ a) (hn : H a = none) : Un fs ex H (upd H a o) h h' where
  keep := fun b u q _ _ _ => k b u q
  slot := fun b u q _ _ _ => ⟨u.slots, k b u q⟩
  free := fun b u q n _ => by rw [upd_ne (Nat.ne_of_lt (Nat.lt_of_lt_of_le (Heap.lt_size q) hp))]; exact n
  there := fun b u q _ => ⟨u, k b u q⟩
  tups := fun b xs q => by rw [upd_ne (ne_of_none q hn)]; exact q
  frzs := fun b u xs q => by rw [upd_ne (ne_of_none q hn)]; exact q
  tbls := fun b ps q => ⟨#[], by rw [upd_ne (ne_of_none q hn), q]; simp⟩
theorem Un.write (mu : Mut (H x)) (he : e = x ∨ H e = some (.own x)) (k : ∀ b u, b ≠ e → h.get? b = some u → h'.get? b = some u) (heo : ∃ u, h'.get? e = some u) : Un fs ex H (upd H x o) h h' := by
  have hx : ∀ b, H b = none → b ≠ x := fun b n z => by subst z; rw [n] at mu; exact mu
  have hb : ∀ b, H b = none → b ≠ e := fun b n z => by
    subst z
    rcases he with r | r
    · exact hx b n r
    · rw [n] at r; cases r
  have hm : ∀ b u, H b = some u → ¬ Mut (some u) → b ≠ x := fun b u q nm z => by subst z; rw [q] at mu; exact nm mu
  refine ⟨fun b u q n _ _ => k b u (hb b n) q, fun b u q n _ _ => ⟨u.slots, k b u (hb b n) q⟩, fun b u q n _ => by rw [upd_ne (hx b n)]; exact n, fun b u q _ => ?_,
    fun b xs q => by rw [upd_ne (hm b _ q fun z => z)]; exact q, fun b u xs q => by rw [upd_ne (hm b _ q fun z => z)]; exact q, fun b ps q => ⟨#[], by rw [upd_ne (hm b _ q fun z => z), q]; simp⟩⟩
  by_cases hbe : b = e
  · subst hbe; exact heo
  · exact ⟨u, k b u hbe q⟩
end

def trk (h : Heap) (H : Hp) : List Addr := (List.range h.objs.size).filter fun a => (H a).isSome
def hidT (h : Heap) (H : Hp) : Heap := PySem.W.hideAll h (trk h H)
theorem hidT_size (h : Heap) (H : Hp) : (hidT h H).objs.size = h.objs.size := PySem.W.hideAll_size _ _
theorem hidT_get {h : Heap} {H : Hp} {b : Addr} {o : Obj} (e : h.get? b = some o) (n : H b = none) : (hidT h H).get? b = some o :=
  PySem.W.hideAll_get _ e fun hm => by
    have q : (H b).isSome = true := (List.mem_filter.mp hm).2
    rw [n] at q; simp at q
theorem of_hidT {h : Heap} {H : Hp} {b : Addr} {o : Obj} (e : (hidT h H).get? b = some o) : h.get? b = some o ∧ H b = none := by
  have e' : h.get? b = some o := PySem.W.of_hideAll (trk h H) e
  refine ⟨e', ?_⟩
  cases q : H b with
  | none => rfl
  | some x =>
    have hm : b ∈ trk h H := List.mem_filter.mpr ⟨List.mem_range.mpr (Heap.lt_size e'), by simp [q]⟩
    have z : (hidT h H).get? b = none := PySem.W.hideAll_none (trk h H) hm
    rw [z] at e; cases e

end L2

namespace L2
open PySem PySem.Spec PyProof.Rows

structure Mod (K : PySem.W.Frag) (mg : Str → Option Value) (base : Heap) : Prop where
  kin : K.In base
  glob : base.Ns mainGlobals mg
  blt : ∃ mb, base.Ns builtinsNs mb ∧ ∀ x : Str, x ≠ "__name__" → mb x = bootBuiltins x
  nolimit : base.NoLimit

structure Cx where
  prog : Program
  w : World
  K : PySem.W.Frag
  mg : Str → Option Value
  base : Heap
  A : Around
  N : List Str
  s₀ : Shared
  H₀ : Hp
  env : Env
  outer : List Env
  stack : List Env
  ex : List Addr
  fn : Str → Bool
  calm : Bool
  pn : List (Addr × Obj)
  xe : Value → Shared → Prop
def frs (l : List Env) : List Addr := l.filterMap (·.frame)
abbrev Cx.fs (X : Cx) : List Addr := frs X.outer

def Vis (sc : Scope) (x : Str) : Prop := sc.names.lookup x = some .local ∨ sc.names.lookup x = some .cell ∨ sc.names.lookup x = some .free
def Loc (sc : Scope) (x : Str) : Prop := sc.names.lookup x = some .local ∨ sc.names.lookup x = some .cell
def Look (env : Env) (h : Heap) (m : Str → Option Value) (x : Str) (u : Value) : Prop :=
  (env.kindOf x = some .local ∧ m x = some u) ∨ ((env.kindOf x = some .cell ∨ env.kindOf x = some .free) ∧ ∃ c, env.cells.lookup x = some c ∧ h.IsCell c (some u))

structure Cx.Ok (X : Cx) : Prop where
  mod : Mod X.K X.mg X.base
  kind : X.env.scope.kind = .function
  glob : X.env.globals = mainGlobals
  blt : X.env.builtins = builtinsNs
  above : X.s₀.heap.objs.size ≤ X.env.locals
  inj : ∀ x y c, X.env.cells.lookup x = some c → X.env.cells.lookup y = some c → x = y
  has : ∀ x, (X.env.kindOf x = some .cell ∨ X.env.kindOf x = some .free) → ∃ c, X.env.cells.lookup x = some c
  cab : ∀ x c, X.fn x = true → X.env.cells.lookup x = some c → X.s₀.heap.objs.size ≤ c
  hd : X.calm = true → X.A.handled = none
  frames : X.A.frames = some X.stack
  stk : X.stack = X.outer ∨ (X.stack = X.env :: X.outer ∧ X.env.frame = some X.env.locals)
  exf : ∀ b ∈ X.ex, b ≠ X.env.locals ∧ ∀ x c, X.env.cells.lookup x = some c → c ≠ b
  bs : ∀ b o, X.base.get? b = some o → X.s₀.heap.get? b = some o ∧ X.H₀ b = none
  bsz : X.base.objs.size ≤ X.s₀.heap.objs.size
  noex : ∀ b o, X.base.get? b = some o → b ∉ X.ex
  exfs : ∀ b ∈ X.ex, b ∉ X.fs
  funs : X.s₀.heap.FunFrames X.base X.outer
  frf : ∀ b ∈ X.fs, X.H₀ b = none

structure Inv (X : Cx) (pins : List (Addr × Obj)) (σ : List (Option V)) (H : Hp) (s : Shared) : Prop where
  ok : X.Ok
  os : s.os = X.s₀.os
  bare : AllBare s.gens
  base : Un X.fs X.ex X.H₀ H X.s₀.heap s.heap
  loc : ∃ m, s.heap.Ns X.env.locals m ∧ ∀ (i : Nat) (x : Str) (v : V), X.N[i]? = some x → σ[i]? = some (some v) → Vis X.env.scope x → ∃ u, RelV v u ∧ Look X.env s.heap m x u
  cell : ∀ x c, X.env.cells.lookup x = some c → ∃ v, s.heap.IsCell c v
  free : H X.env.locals = none
  freeC : ∀ x c, X.env.cells.lookup x = some c → H c = none
  pin : ∀ p ∈ X.pn ++ pins, s.heap.get? p.1 = some p.2 ∧ H p.1 = none ∧ p.1 ≠ X.env.locals ∧ p.1 ∉ X.fs ∧ ∀ v, p.2.data ≠ .cell v
  hok : HOk X.prog X.w H s.heap
  len : σ.length = X.N.length

section
variable {X : Cx} {pins : List (Addr × Obj)} {σ : List (Option V)} {H H' : Hp} {s : Shared} {h' : Heap}

theorem Cx.Ok.nofr (ok : X.Ok) {b : Addr} {o : Obj} (e : X.base.get? b = some o) : b ∉ X.fs := fun hb => by
  have := (ok.funs.mem hb).1
  rw [e] at this; cases this
theorem Inv.bs (I : Inv X pins σ H s) : ∀ b o, X.base.get? b = some o → s.heap.get? b = some o ∧ H b = none := fun b o e =>
  ⟨I.base.keep b o (I.ok.bs b o e).1 (I.ok.bs b o e).2 (I.ok.nofr e) (I.ok.noex b o e), I.base.free b o (I.ok.bs b o e).1 (I.ok.bs b o e).2 (I.ok.noex b o e)⟩
theorem Inv.bk (I : Inv X pins σ H s) : ∀ b o, X.base.get? b = some o → s.heap.get? b = some o := fun b o e => (I.bs b o e).1
theorem Inv.mod (I : Inv X pins σ H s) : Mod X.K X.mg X.base := I.ok.mod
theorem Inv.kIn (I : Inv X pins σ H s) : X.K.In s.heap := I.ok.mod.kin.keeps I.bk
theorem Inv.lt (I : Inv X pins σ H s) : X.env.locals < s.heap.objs.size := let ⟨_, hn, _⟩ := I.loc; hn.lt
theorem Inv.sz (I : Inv X pins σ H s) : X.s₀.heap.objs.size ≤ s.heap.objs.size := Nat.le_trans I.ok.above (Nat.le_of_lt I.lt)
theorem Inv.nofs (I : Inv X pins σ H s) {a : Addr} (h : s.heap.objs.size ≤ a) : a ∉ X.fs := fun hb => by
  obtain ⟨_, o, ho, _⟩ := I.ok.funs.mem hb
  exact absurd (Nat.lt_of_lt_of_le (Heap.lt_size ho) (Nat.le_trans I.sz h)) (Nat.lt_irrefl _)
theorem Inv.cne (I : Inv X pins σ H s) : ∀ x c, X.env.cells.lookup x = some c → c ≠ X.env.locals := fun x c e z => by
  obtain ⟨v, o, ho, hd⟩ := I.cell x c e
  obtain ⟨m, ⟨o', es, ep, ho', hd', _⟩, _⟩ := I.loc
  rw [z, ho'] at ho; cases ho; rw [hd'] at hd; cases hd
theorem Inv.funs (I : Inv X pins σ H s) : s.heap.FunFrames X.base X.outer := by
  have all : ∀ (l : List Env), (∀ b ∈ frs l, b ∈ X.fs) → X.s₀.heap.FunFrames X.base l → s.heap.FunFrames X.base l := by
    intro l
    induction l with
    | nil => intro _ _; trivial
    | cons env r ih =>
      intro hs hl
      obtain ⟨hk, ⟨L, o, hf, hn, ho, hd⟩, hr⟩ := hl
      have hL : L ∈ X.fs := hs L (by unfold frs; rw [List.filterMap_cons, hf]; exact List.mem_cons_self)
      obtain ⟨sl, e⟩ := I.base.slot L o ho (I.ok.frf L hL) hL fun z => I.ok.exfs L z hL
      exact ⟨hk, ⟨L, _, hf, hn, e, hd⟩, ih (fun b hb => hs b (by unfold frs; rw [List.filterMap_cons, hf]; exact List.mem_cons_of_mem _ hb)) hr⟩
  exact all X.outer (fun _ hb => hb) I.ok.funs

theorem Inv.stack (I : Inv X pins σ H s) : s.heap.FunFrames X.base X.stack := by
  rcases I.ok.stk with e | ⟨e, hf⟩
  · rw [e]; exact I.funs
  · rw [e]
    obtain ⟨m, hn, _⟩ := I.loc
    refine .cons (by rw [I.ok.kind]; decide) hf hn ?_ I.funs
    exact Heap.get?_none_of_le (Nat.le_trans I.ok.bsz I.ok.above)
theorem Inv.stkSub (I : Inv X pins σ H s) : ∀ b ∈ frs X.stack, b ∈ X.env.locals :: X.fs := fun b hb => by
  rcases I.ok.stk with e | ⟨e, hf⟩
  · rw [e] at hb; exact List.mem_cons_of_mem _ hb
  · rw [e] at hb
    unfold frs at hb
    rw [List.filterMap_cons, hf] at hb
    exact hb
theorem Inv.stkFree (I : Inv X pins σ H s) : ∀ b ∈ frs X.stack, H b = none := fun b hb => by
  rcases List.mem_cons.mp (I.stkSub b hb) with e | hb
  · rw [e]; exact I.free
  · obtain ⟨_, o, ho, _⟩ := I.ok.funs.mem hb
    exact I.base.free b o ho (I.ok.frf b hb) fun z => I.ok.exfs b z hb

theorem Inv.step {g' : Array GenState} {t' : Nat} {d' : Drawn} {ch : List Addr} (I : Inv X pins σ H s)
    (hch : ∀ b ∈ ch, (b ∈ X.ex ∨ X.s₀.heap.objs.size ≤ b) ∧ b ≠ X.env.locals ∧ (∀ x c, X.env.cells.lookup x = some c → c ≠ b) ∧ ∀ p ∈ X.pn ++ pins, p.1 ≠ b)
    (keep : ∀ b o, b ≠ X.env.locals → b ∉ X.fs → b ∉ ch → s.heap.get? b = some o → H b = none → h'.get? b = some o)
    (slot : ∀ b o, b ≠ X.env.locals → b ∈ X.fs → b ∉ ch → s.heap.get? b = some o → H b = none → ∃ sl, h'.get? b = some { o with slots := sl }) (free : ∀ b o, b ∉ ch → s.heap.get? b = some o → H b = none → H' b = none)
    (there : ∀ b o, b ∉ ch → s.heap.get? b = some o → ∃ o', h'.get? b = some o')
    (tups : ∀ b xs, H b = some (.tup xs) → H' b = some (.tup xs)) (frzs : ∀ b o u, H b = some (.frz o u) → H' b = some (.frz o u)) (tbls : ∀ b ps, H b = some (.tbl ps) → ∃ more, H' b = some (.tbl (ps ++ more)))
    (ns : ∀ m, s.heap.Ns X.env.locals m → h'.Ns X.env.locals m) (hok : HOk X.prog X.w H' h') (hg : AllBare g') :
    Inv X pins σ H' { s with heap := h', gens := g', drawn := d', toks := t' } := by
  have neL : ∀ b o, X.s₀.heap.get? b = some o → b ≠ X.env.locals := fun b o e => Nat.ne_of_lt (Nat.lt_of_lt_of_le (Heap.lt_size e) I.ok.above)
  have neC : ∀ b o, X.s₀.heap.get? b = some o → b ∉ X.ex → b ∉ ch := fun b o e hx hb => by
    rcases (hch b hb).1 with z | z
    · exact hx z
    · exact absurd (Nat.lt_of_lt_of_le (Heap.lt_size e) z) (Nat.lt_irrefl _)
  have cellK : ∀ x c, X.env.cells.lookup x = some c → ∀ v, s.heap.IsCell c v → h'.IsCell c v := fun x c e v ⟨o, ho, hd⟩ => by
    have nch : c ∉ ch := fun z => (hch c z).2.2.1 x c e rfl
    by_cases hc : c ∈ X.fs
    · obtain ⟨sl, q⟩ := slot c o (I.cne x c e) hc nch ho (I.freeC x c e)
      exact ⟨_, q, hd⟩
    · exact ⟨o, keep c o (I.cne x c e) hc nch ho (I.freeC x c e), hd⟩
  refine ⟨I.ok, I.os, hg, ⟨fun b o e n hb hx => ?_, fun b o e n hb hx => ?_, fun b o e n hx => ?_, fun b o e hx => ?_, fun b xs e => tups b xs (I.base.tups b xs e), fun b o xs e => frzs b o xs (I.base.frzs b o xs e), fun b ps e => ?_⟩, ?_, fun x c e => ?_, ?_, fun x c e => ?_, fun p hp => ?_, hok, I.len⟩
  · exact keep b o (neL b o e) hb (neC b o e hx) (I.base.keep b o e n hb hx) (I.base.free b o e n hx)
  · obtain ⟨sl, e1⟩ := I.base.slot b o e n hb hx
    obtain ⟨sl', e2⟩ := slot b _ (neL b o e) hb (neC b o e hx) e1 (I.base.free b o e n hx)
    exact ⟨sl', e2⟩
  · obtain ⟨o', e1⟩ := I.base.there b o e hx
    exact free b o' (neC b o e hx) e1 (I.base.free b o e n hx)
  · obtain ⟨o', e1⟩ := I.base.there b o e hx
    exact there b o' (neC b o e hx) e1
  · obtain ⟨m1, e1⟩ := I.base.tbls b ps e
    obtain ⟨m2, e2⟩ := tbls b _ e1
    exact ⟨m1 ++ m2, by rw [e2, Array.append_assoc]⟩
  · obtain ⟨m, hn, hl⟩ := I.loc
    refine ⟨m, ns m hn, fun i x v e1 e2 e3 => ?_⟩
    obtain ⟨u, r, l⟩ := hl i x v e1 e2 e3
    refine ⟨u, r, ?_⟩
    rcases l with l | ⟨k, c, e, z⟩
    · exact .inl l
    · exact .inr ⟨k, c, e, cellK x c e _ z⟩
  · obtain ⟨v, z⟩ := I.cell x c e
    exact ⟨v, cellK x c e v z⟩
  · obtain ⟨m, ⟨o, _, _, ho, _⟩, _⟩ := I.loc
    exact free _ o (fun z => (hch _ z).2.1 rfl) ho I.free
  · obtain ⟨v, o, ho, hd⟩ := I.cell x c e
    exact free c o (fun z => (hch c z).2.2.1 x c e rfl) ho (I.freeC x c e)
  · obtain ⟨e, n, ne, nf, d⟩ := I.pin p hp
    have nch : p.1 ∉ ch := fun z => (hch p.1 z).2.2.2 p hp rfl
    exact ⟨keep p.1 p.2 ne nf nch e n, free p.1 p.2 nch e n, ne, nf, d⟩
theorem Inv.un {t' : Nat} (I : Inv X pins σ H s) (u : Un X.fs [] H H' s.heap h') (hok : HOk X.prog X.w H' h') : Inv X pins σ H' { s with heap := h', toks := t' } := by
  obtain ⟨m, ⟨o, es, ep, ho, r⟩, _⟩ := id I.loc
  obtain ⟨sl, hL⟩ := u.any ho I.free (by simp)
  exact I.step (g' := s.gens) (d' := s.drawn) (ch := []) (fun _ z => nomatch z) (fun b o _ hb _ e n => u.keep b o e n hb (by simp)) (fun b o _ hb _ e n => u.slot b o e n hb (by simp)) (fun b o _ e n => u.free b o e n (by simp)) (fun b o _ e => u.there b o e (by simp)) u.tups u.frzs u.tbls (fun m' hm => by
    obtain ⟨o', es', ep', ho', r'⟩ := hm
    rw [ho] at ho'; cases ho'
    exact ⟨_, es', ep', hL, r'⟩) hok I.bare
theorem Inv.call {g' : Array GenState} {t' : Nat} {d' : Drawn} {ch : List Addr} (I : Inv X pins σ H s) (u : Un (frs X.stack) ch H H' s.heap h') (hok : HOk X.prog X.w H' h') (hg : AllBare g')
    (hch : ∀ b ∈ ch, (b ∈ X.ex ∨ X.s₀.heap.objs.size ≤ b) ∧ b ≠ X.env.locals ∧ (∀ x c, X.env.cells.lookup x = some c → c ≠ b) ∧ ∀ p ∈ X.pn ++ pins, p.1 ≠ b) :
    Inv X pins σ H' { s with heap := h', gens := g', drawn := d', toks := t' } := by
  obtain ⟨m, ⟨o, es, ep, ho, r⟩, _⟩ := id I.loc
  obtain ⟨sl, hL⟩ := u.any ho I.free fun z => (hch _ z).2.1 rfl
  exact I.step (ch := ch) hch (fun b o hL hb hc e n => u.keep b o e n (fun z => (List.mem_cons.mp (I.stkSub b z)).elim hL hb) hc) (fun b o _ _ hc e n => u.any e n hc) (fun b o hc e n => u.free b o e n hc) (fun b o hc e => u.there b o e hc) u.tups u.frzs u.tbls (fun m' hm => by
    obtain ⟨o', es', ep', ho', r'⟩ := hm
    rw [ho] at ho'; cases ho'
    exact ⟨_, es', ep', hL, r'⟩) hok hg
theorem Inv.turned {t' : Nat} {it : Addr} (I : Inv X pins σ H s) (k : ∀ b o, b ≠ it → s.heap.get? b = some o → h'.get? b = some o) (hn : H it = none) (hL : it ≠ X.env.locals)
    (h1 : it ∈ X.ex ∨ X.s₀.heap.objs.size ≤ it) (h2 : ∀ x c, X.env.cells.lookup x = some c → c ≠ it) (h3 : ∀ p ∈ X.pn ++ pins, p.1 ≠ it) : Inv X pins σ H { s with heap := h', toks := t' } := by
  have nit : ∀ b u, H b = some u → b ≠ it := fun b u e z => by rw [z, hn] at e; cases e
  refine I.step (g' := s.gens) (d' := s.drawn) (ch := [it]) (fun b hb => ?_) (fun b o _ _ hc e _ => k b o (fun z => hc (by simp [z])) e) (fun b o _ _ hc e _ => ⟨o.slots, k b o (fun z => hc (by simp [z])) e⟩) (fun _ _ _ _ n => n)
    (fun b o hc e => ⟨o, k b o (fun z => hc (by simp [z])) e⟩) (fun _ _ e => e) (fun _ _ _ e => e) (fun b ps e => ⟨#[], by rw [e]; simp⟩) (fun m hm => ?_) (fun b u e => ?_) I.bare
  · have e : b = it := by simpa using hb
    subst e
    exact ⟨h1, hL, h2, h3⟩
  · obtain ⟨o, es, ep, ho, r⟩ := hm
    exact ⟨o, es, ep, k _ o (Ne.symm hL) ho, r⟩
  · refine (I.hok b u e).stay (fun c v hc q => k c v ?_ q) (fun _ q => q) fun _ _ q => q
    rcases hc with z | z
    · rw [z]; exact nit b u e
    · exact nit c _ z
theorem Inv.tok (I : Inv X pins σ H s) (t : Nat) : Inv X pins σ H { s with toks := t } := I.un (h' := s.heap) (t' := t) Un.refl I.hok
theorem Inv.kept {t' : Nat} (I : Inv X pins σ H s) (k : ∀ b u, s.heap.get? b = some u → h'.get? b = some u) : Inv X pins σ H { s with heap := h', toks := t' } := I.un (Un.kept k) (I.hok.kept k)
theorem Inv.laid {a : Addr} {o : HO} {t' : Nat} (I : Inv X pins σ H s) (k : ∀ b u, s.heap.get? b = some u → h'.get? b = some u) (hp : s.heap.objs.size ≤ a) (new : ObjOk X.prog X.w (upd H a o) h' a o) :
    Inv X pins σ (upd H a o) { s with heap := h', toks := t' } := I.un (Un.laid k hp (I.hok.fresh hp)) (I.hok.laid k hp new)
theorem Inv.write {x e : Addr} {o : HO} {t' : Nat} (I : Inv X pins σ H s) (mu : Mut (H x)) (he : e = x ∨ H e = some (.own x)) (k : ∀ b u, b ≠ e → s.heap.get? b = some u → h'.get? b = some u) (heo : ∃ u, h'.get? e = some u)
    (new : ObjOk X.prog X.w (upd H x o) h' x o) : Inv X pins σ (upd H x o) { s with heap := h', toks := t' } := I.un (Un.write mu he k heo) (I.hok.write mu he k heo new)
theorem Inv.pins_of {pins' : List (Addr × Obj)} (I : Inv X pins σ H s) (h : ∀ p ∈ pins', s.heap.get? p.1 = some p.2 ∧ H p.1 = none ∧ p.1 ≠ X.env.locals ∧ p.1 ∉ X.fs ∧ ∀ v, p.2.data ≠ .cell v) : Inv X pins' σ H s :=
  ⟨I.ok, I.os, I.bare, I.base, I.loc, I.cell, I.free, I.freeC, fun p hp => (List.mem_append.mp hp).elim (fun z => I.pin p (List.mem_append_left _ z)) (h p), I.hok, I.len⟩

theorem nodup_ix {N : List Str} (hN : N.Nodup) {i j : Nat} {x : Str} (a : N[i]? = some x) (b : N[j]? = some x) : i = j := by
  obtain ⟨h1, e1⟩ := List.getElem?_eq_some_iff.mp a
  obtain ⟨h2, e2⟩ := List.getElem?_eq_some_iff.mp b
  exact (List.getElem_inj hN).mp (e1.trans e2.symm)

theorem store_ok2 {M : Model} {A : Around} {E : Value → Shared → Prop} {i : Nat} {x : Str} {v : V} {u : Value} {Q : Unit → Shared → Prop} (I : Inv X pins σ H s) (hN : X.N.Nodup) (hi : X.N[i]? = some x) (hx : Loc X.env.scope x) (r : RelV v u)
    (h : ∀ s', Inv X pins (σ.set i (some v)) H s' → (∃ a, Heap.SameBut a s.heap s'.heap ∧ (a = X.env.locals ∨ X.env.cells.lookup x = some a)) → Q () s') (hf : X.fn x = true ∨ X.env.scope.names.lookup x = some .local := by first | exact .inl rfl | exact .inr rfl | assumption) : wpAny M A (storeName X.env x u) Q E s := by
  obtain ⟨m, hn, hl⟩ := id I.loc
  have hcls : (X.env.scope.kind == .class || (X.env.scope.kind == .module && X.env.locals != X.env.globals)) = false := by rw [I.ok.kind]; rfl
  have hiσ : i < σ.length := by rw [I.len]; exact (List.getElem?_eq_some_iff.mp hi).1
  have cne := I.cne
  have tracked : ∀ {a : Addr} {h' : Heap}, (∃ o, s.heap.get? a = some o ∧ H a = none) → Heap.SameBut a s.heap h' → HOk X.prog X.w H h' := fun {a h'} ha hs b ob e => by
    obtain ⟨_, _, hfree⟩ := ha
    refine (I.hok b ob e).stay (fun c w' hc q => (hs.2 c ?_).trans q) (fun _ q => q) fun _ _ q => q
    rintro rfl
    rcases hc with rfl | hc
    · rw [hfree] at e; cases e
    · rw [hfree] at hc; cases hc
  rcases hx with hk | hk
  · refine wpAny_storeName_local hk hn (fun h' hn' hs => ?_) hcls
    obtain ⟨oL, _, _, hoL, _⟩ := id hn
    refine h _ ⟨I.ok, I.os, I.bare, ⟨fun b o e n hb hx => ?_, fun b o e n hb hx => ?_, I.base.free, fun b o e hx => ?_, I.base.tups, I.base.frzs, I.base.tbls⟩, ⟨_, hn', fun j y v' e1 e2 e3 => ?_⟩, fun y c e => ?_, I.free, I.freeC, fun p hp => ?_, tracked ⟨oL, hoL, I.free⟩ hs, by simpa using I.len⟩ ⟨_, hs, .inl rfl⟩
    · exact (hs.2 b (Nat.ne_of_lt (Nat.lt_of_lt_of_le (Heap.lt_size e) I.ok.above))).trans (I.base.keep b o e n hb hx)
    · obtain ⟨sl, e1⟩ := I.base.slot b o e n hb hx
      exact ⟨sl, (hs.2 b (Nat.ne_of_lt (Nat.lt_of_lt_of_le (Heap.lt_size e) I.ok.above))).trans e1⟩
    · obtain ⟨o', e1⟩ := I.base.there b o e hx
      exact ⟨o', (hs.2 b (Nat.ne_of_lt (Nat.lt_of_lt_of_le (Heap.lt_size e) I.ok.above))).trans e1⟩
    · by_cases hj : j = i
      · subst hj
        rw [hi] at e1; cases e1
        rw [List.getElem?_set_self hiσ] at e2
        cases e2
        exact ⟨u, r, .inl ⟨hk, by simp⟩⟩
      · rw [List.getElem?_set_ne (Ne.symm hj)] at e2
        obtain ⟨u', r', q⟩ := hl j y v' e1 e2 e3
        refine ⟨u', r', ?_⟩
        rcases q with ⟨k, e⟩ | ⟨k, c, e, z⟩
        · refine .inl ⟨k, ?_⟩
          have : y ≠ x := fun e => hj (nodup_ix hN e1 (e ▸ hi))
          simp [this, e]
        · exact .inr ⟨k, c, e, z.sameBut hs (cne y c e)⟩
    · obtain ⟨w', z⟩ := I.cell y c e
      exact ⟨w', z.sameBut hs (cne y c e)⟩
    · obtain ⟨e, n, ne, nf, d⟩ := I.pin p hp
      exact ⟨(hs.2 p.1 ne).trans e, n, ne, nf, d⟩
  · have hfn : X.fn x = true := by
      rcases hf with z | z
      · exact z
      · rw [z] at hk; cases hk
    obtain ⟨c, hc⟩ := I.ok.has x (.inl hk)
    obtain ⟨w', z⟩ := I.cell x c hc
    refine wpAny_storeName_cell I.ok.kind hk hc z (fun h' hc' hs => ?_)
    obtain ⟨oc, hoc, hocd⟩ := id z
    refine h { s with heap := h' } ⟨I.ok, I.os, I.bare, ⟨fun b o e n hb hx => ?_, fun b o e n hb hx => ?_, I.base.free, fun b o e hx => ?_, I.base.tups, I.base.frzs, I.base.tbls⟩, ⟨m, hn.sameBut hs (Ne.symm (cne x c hc)), fun j y v' e1 e2 e3 => ?_⟩, fun y c' e => ?_, I.free, I.freeC, fun p hp => ?_, tracked ⟨oc, hoc, I.freeC x c hc⟩ hs, by simpa using I.len⟩ ⟨c, hs, .inr hc⟩
    · exact (hs.2 b (Nat.ne_of_lt (Nat.lt_of_lt_of_le (Heap.lt_size e) (I.ok.cab x c hfn hc)))).trans (I.base.keep b o e n hb hx)
    · obtain ⟨sl, e1⟩ := I.base.slot b o e n hb hx
      exact ⟨sl, (hs.2 b (Nat.ne_of_lt (Nat.lt_of_lt_of_le (Heap.lt_size e) (I.ok.cab x c hfn hc)))).trans e1⟩
    · obtain ⟨o', e1⟩ := I.base.there b o e hx
      exact ⟨o', (hs.2 b (Nat.ne_of_lt (Nat.lt_of_lt_of_le (Heap.lt_size e) (I.ok.cab x c hfn hc)))).trans e1⟩
    · by_cases hj : j = i
      · subst hj
        rw [hi] at e1; cases e1
        rw [List.getElem?_set_self hiσ] at e2
        cases e2
        exact ⟨u, r, .inr ⟨.inl hk, c, hc, hc'⟩⟩
      · rw [List.getElem?_set_ne (Ne.symm hj)] at e2
        obtain ⟨u', r', q⟩ := hl j y v' e1 e2 e3
        refine ⟨u', r', ?_⟩
        rcases q with q | ⟨k, c', e, z'⟩
        · exact .inl q
        · refine .inr ⟨k, c', e, z'.sameBut hs ?_⟩
          rintro rfl
          exact hj (nodup_ix hN e1 (I.ok.inj _ _ _ e hc ▸ hi))
    · by_cases hcc : c' = c
      · subst hcc; exact ⟨_, hc'⟩
      · obtain ⟨w2, z2⟩ := I.cell y c' e
        exact ⟨w2, z2.sameBut hs hcc⟩
    · obtain ⟨e, n, ne, nf, d⟩ := I.pin p hp
      refine ⟨(hs.2 p.1 ?_).trans e, n, ne, nf, d⟩
      intro q
      rw [q, hoc] at e
      have q' : oc = p.2 := Option.some.inj e
      exact d w' (by rw [← q']; exact hocd)
theorem store_ok {M : Model} {A : Around} {E : Value → Shared → Prop} {i : Nat} {x : Str} {v : V} {u : Value} {Q : Unit → Shared → Prop} (I : Inv X pins σ H s) (hN : X.N.Nodup) (hi : X.N[i]? = some x) (hx : Loc X.env.scope x) (r : RelV v u)
    (h : ∀ s', Inv X pins (σ.set i (some v)) H s' → Q () s') (hf : X.fn x = true ∨ X.env.scope.names.lookup x = some .local := by first | exact .inl rfl | exact .inr rfl | assumption) : wpAny M A (storeName X.env x u) Q E s :=
  store_ok2 I hN hi hx r (fun s' I' _ => h s' I') hf
theorem Inv.call' {s' : Shared} {ch : List Addr} (I : Inv X pins σ H s) (ho : s'.os = s.os) (u : Un (frs X.stack) ch H H' s.heap s'.heap) (hok : HOk X.prog X.w H' s'.heap) (hg : AllBare s'.gens)
    (hch : ∀ b ∈ ch, (b ∈ X.ex ∨ X.s₀.heap.objs.size ≤ b) ∧ b ≠ X.env.locals ∧ (∀ x c, X.env.cells.lookup x = some c → c ≠ b) ∧ ∀ p ∈ X.pn ++ pins, p.1 ≠ b) : Inv X pins σ H' s' := by
  obtain ⟨h', g', d', t', o'⟩ := s'
  have e : o' = s.os := ho
  subst e
  exact I.call (g' := g') (t' := t') (d' := d') u hok hg hch
end

abbrev XK := Value → Option Addr → Hp → Prop
abbrev St := List (Option V)
abbrev VK := V → Hp → Prop
abbrev TE := St → Hp → VK → Prop
abbrev TT := St → Hp → (Bool → Hp → Prop) → Prop
abbrev TA := St → Hp → (List V → Hp → Prop) → Prop
structure Ends where
  nx : St → Hp → Prop
  rt : VK
  bk : St → Hp → Prop := fun _ _ => False
  ct : St → Hp → Prop := fun _ _ => False
abbrev TS := Ends → St → Hp → Prop

def EP (X : Cx) (pins : List (Addr × Obj)) (σ : St) (Q : VK) (u : Value) (s' : Shared) : Prop := ∃ v H', Inv X pins σ H' s' ∧ RelV v u ∧ Q v H'
def TP (X : Cx) (pins : List (Addr × Obj)) (σ : St) (Q : Bool → Hp → Prop) (b : Bool) (s' : Shared) : Prop := ∃ H', Inv X pins σ H' s' ∧ Q b H'
def AP (X : Cx) (pins : List (Addr × Obj)) (σ : St) (Q : List V → Hp → Prop) (us : List Value) (s' : Shared) : Prop := ∃ vs H', Inv X pins σ H' s' ∧ Vals vs us ∧ Q vs H'
def SP (X : Cx) (pins : List (Addr × Obj)) (D : Ends) (f : Flow) (s' : Shared) : Prop :=
  match f with
  | .next => ∃ σ' H', Inv X pins σ' H' s' ∧ D.nx σ' H'
  | .brk => ∃ σ' H', Inv X pins σ' H' s' ∧ D.bk σ' H'
  | .cont => ∃ σ' H', Inv X pins σ' H' s' ∧ D.ct σ' H'
  | .ret u => ∃ v σ' H', Inv X pins σ' H' s' ∧ RelV v u ∧ D.rt v H'

def PE (X : Cx) (e : Expr) (t : TE) : Prop :=
  ∀ (pins : List (Addr × Obj)) (s : Shared) (σ : St) (H : Hp) (Q : VK), Inv X pins σ H s → t σ H Q → wpAny (model X.prog X.w) X.A (eval e X.env) (EP X pins σ Q) X.xe s
def PT (X : Cx) (e : Expr) (t : TT) : Prop :=
  ∀ (pins : List (Addr × Obj)) (s : Shared) (σ : St) (H : Hp) (Q : Bool → Hp → Prop), Inv X pins σ H s → t σ H Q → wpAny (model X.prog X.w) X.A (isTrue e X.env (eval e X.env)) (TP X pins σ Q) X.xe s
def PW (X : Cx) (e : Expr) (t : TT) : Prop :=
  ∀ (whole : Sem Value) (pins : List (Addr × Obj)) (s : Shared) (σ : St) (H : Hp) (Q : Bool → Hp → Prop), Inv X pins σ H s → t σ H Q → wpAny (model X.prog X.w) X.A (isTrue e X.env whole) (TP X pins σ Q) X.xe s
theorem PW.pt {X : Cx} {e : Expr} {t : TT} (h : PW X e t) : PT X e t := h _
def PA (X : Cx) (es : List Expr) (t : TA) : Prop :=
  ∀ (pos : Pos) (pins : List (Addr × Obj)) (s : Shared) (σ : St) (H : Hp) (Q : List V → Hp → Prop), Inv X pins σ H s → t σ H Q → wpAny (model X.prog X.w) X.A (spliced (backTo pos (starEach es X.env))) (AP X pins σ Q) X.xe s
def PS (X : Cx) (st : Stmt) (t : TS) : Prop :=
  ∀ (pins : List (Addr × Obj)) (s : Shared) (σ : St) (H : Hp) (D : Ends), Inv X pins σ H s → t D σ H → wpAny (model X.prog X.w) X.A (exec st X.env) (SP X pins D) X.xe s
def PSs (X : Cx) (st : List Stmt) (t : TS) : Prop :=
  ∀ (pins : List (Addr × Obj)) (s : Shared) (σ : St) (H : Hp) (D : Ends), Inv X pins σ H s → t D σ H → wpAny (model X.prog X.w) X.A (execs st X.env) (SP X pins D) X.xe s
theorem thn {α : Type} {t : Sem α} {Q Q' : α → Shared → Prop} {M : Model} {A : Around} {E : Value → Shared → Prop} {s : Shared} (h : wpAny M A t Q E s) (hQ : ∀ a s, Q a s → Q' a s) : wpAny M A t Q' E s := wpAny_mono h hQ fun _ _ x => x
end L2

namespace L2
open PySem PySem.Spec PyProof.Rows
section
variable {X : Cx}

def tVar (i : Nat) : TE := fun σ H Q => ∃ v, σ[i]? = some (some v) ∧ Q v H
def tC (v : V) : TE := fun _ H Q => Q v H
theorem pe_var {i : Nat} {x : Str} {pos : Pos} (hN : X.N[i]? = some x) (hv : Vis X.env.scope x) (hd : (x == ("__debug__" : Str)) = false := by decide) (hcd : (x == ("__classdict__" : Str)) = false := by decide) : PE X (.Name x pos) (tVar i) := by
  intro pins s σ H Q I h
  obtain ⟨v, e, h⟩ := h
  obtain ⟨m, hn, hl⟩ := I.loc
  obtain ⟨u, r, l⟩ := hl i x v hN e hv
  have fin : EP X pins σ Q u s := ⟨v, H, I, r, h⟩
  rcases l with ⟨hk, hm⟩ | ⟨hk, c, hc, hcell⟩
  · exact wpAny_Name (wpAny_loadName_local I.ok.kind hk hn hm fin) hd
  · rcases hk with hk | hk
    · exact wpAny_Name (wpAny_loadName_cell I.ok.kind hk hc hcell fin) hd
    · exact wpAny_Name (wpAny_loadName_free I.ok.kind hk hc hcell fin hcd) hd
theorem pe_int {i j pos} : PE X (.Constant (.int i) j pos) (tC (.int i)) := fun _ _ _ H _ I h => wpAny_Constant_int ⟨.int i, H, I.tok _, ⟨_, rfl⟩, h⟩
theorem pe_bl {b j pos} : PE X (.Constant (.bool b) j pos) (tC (.bl b)) := fun _ _ _ H _ I h => Constant_bool ⟨.bl b, H, I, rfl, h⟩
theorem pe_str {x j pos} : PE X (.Constant (.str x) j pos) (tC (.str x)) := fun _ _ _ H _ I h => Calls.Constant_str ⟨.str x, H, I.tok _, ⟨_, rfl⟩, h⟩

def Gl (X : Cx) (x : Str) : Prop := X.env.kindOf x = some .globalImplicit
theorem ld_glob {E : Value → Shared → Prop} {pins : List (Addr × Obj)} {s : Shared} {σ : St} {H : Hp} {x : Str} {u : Value} {pos : Pos} {Q : Value → Shared → Prop} (I : Inv X pins σ H s) (hg : Gl X x) (hm : X.mg x = some u) (h : Q u s)
    (hd : (x == ("__debug__" : Str)) = false := by decide) : wpAny (model X.prog X.w) X.A (eval (.Name x pos) X.env) Q E s :=
  Calls.Name_function_global I.ok.kind hg (Calls.loadGlobal_global (by rw [I.ok.glob]; exact I.mod.glob.keeps I.bk) hm h) hd
theorem ld_blt {E : Value → Shared → Prop} {pins : List (Addr × Obj)} {s : Shared} {σ : St} {H : Hp} {x : Str} {u : Value} {pos : Pos} {Q : Value → Shared → Prop} (I : Inv X pins σ H s) (hg : Gl X x) (hm : X.mg x = none) (hv : bootBuiltins x = some u) (h : Q u s)
    (hn : x ≠ "__name__" := by decide) (hd : (x == ("__debug__" : Str)) = false := by decide) : wpAny (model X.prog X.w) X.A (eval (.Name x pos) X.env) Q E s := by
  obtain ⟨mb, h1, h2⟩ := I.mod.blt
  exact Calls.Name_function_global I.ok.kind hg (Calls.loadGlobal_builtin (by rw [I.ok.glob]; exact I.mod.glob.keeps I.bk) hm (by rw [I.ok.blt]; exact h1.keeps I.bk) ((h2 x hn).trans hv) h) hd
theorem pe_glob {x : Str} {v : V} {u : Value} {pos : Pos} (hg : Gl X x) (hm : X.mg x = some u) (r : RelV v u) (hd : (x == ("__debug__" : Str)) = false := by decide) : PE X (.Name x pos) (tC v) :=
  fun _ _ _ H _ I h => ld_glob I hg hm ⟨v, H, I, r, h⟩ hd
theorem pe_bltn {x : Str} {v : V} {u : Value} {pos : Pos} (hg : Gl X x) (hm : X.mg x = none) (hv : bootBuiltins x = some u) (r : RelV v u) (hn : x ≠ "__name__" := by decide) (hd : (x == ("__debug__" : Str)) = false := by decide) : PE X (.Name x pos) (tC v) :=
  fun _ _ _ H _ I h => ld_blt I hg hm hv ⟨v, H, I, r, h⟩ hn hd

variable {a b : Expr} {ta tb : TE} {pos : Pos}
def tB (t : TE) : TT := fun σ H Q => t σ H fun x H1 => ∃ c, x = .bl c ∧ Q c H1
theorem pt_val {e : Expr} {t : TE} (h : PE X e t) (he : ∀ whole, isTrue e X.env whole = (do let v ← whole; standAt e.pos; holding [v] (truthy v)) := by intro _; rfl) : PT X e (tB t) := by
  intro pins s σ H Q I hw
  refine isTrue_plain (thn (h pins s σ H _ I hw) fun v s1 ⟨x, H1, I1, r1, q1⟩ => ?_) (he _)
  obtain ⟨d, rfl, q⟩ := q1
  cases r1
  exact wpAny_truthy_bool ⟨H1, I1, q⟩

variable {tA tB' : TT} {rest : List Expr}
def tAnd (t u : TT) : TT := fun σ H Q => t σ H fun c H1 => if c = true then u σ H1 Q else Q false H1
def tOr (t u : TT) : TT := fun σ H Q => t σ H fun c H1 => if c = true then Q true H1 else u σ H1 Q
def tNot (t : TT) : TT := fun σ H Q => t σ H fun c H1 => Q (!c) H1
theorem pw_and1 (ha : PT X a tA) : PW X (.BoolOp .And [a] pos) tA := by
  intro wh pins s σ H Q I h
  refine isTrue_and (thn (ha pins s σ H Q I h) fun c s1 e => ?_)
  cases c with
  | true => exact isTrue_and_nil e
  | false => exact e
theorem pw_or1 (ha : PT X a tA) : PW X (.BoolOp .Or [a] pos) tA := by
  intro wh pins s σ H Q I h
  refine isTrue_or (thn (ha pins s σ H Q I h) fun c s1 e => ?_)
  cases c with
  | false => exact isTrue_or_nil e
  | true => exact e
theorem pw_and (ha : PT X a tA) (hb : PW X (.BoolOp .And (b :: rest) pos) tB') : PW X (.BoolOp .And (a :: b :: rest) pos) (tAnd tA tB') := by
  intro wh pins s σ H Q I h
  refine isTrue_and (thn (ha pins s σ H _ I h) fun c s1 ⟨H1, I1, q1⟩ => ?_)
  cases c with
  | true => exact hb wh pins s1 σ H1 Q I1 q1
  | false => exact ⟨H1, I1, q1⟩
theorem pw_or (ha : PT X a tA) (hb : PW X (.BoolOp .Or (b :: rest) pos) tB') : PW X (.BoolOp .Or (a :: b :: rest) pos) (tOr tA tB') := by
  intro wh pins s σ H Q I h
  refine isTrue_or (thn (ha pins s σ H _ I h) fun c s1 ⟨H1, I1, q1⟩ => ?_)
  cases c with
  | true => exact ⟨H1, I1, q1⟩
  | false => exact hb wh pins s1 σ H1 Q I1 q1
theorem pt_not (ha : PT X a tA) : PT X (.UnaryOp .Not a pos) (tNot tA) := by
  intro pins s σ H Q I h
  exact isTrue_not (ha pins s σ H (fun c H1 => Q (!c) H1) I h)
def tAndV (ta tb : TE) : TE := fun σ H Q => ta σ H fun x H1 => ∃ c, x = .bl c ∧ if c = true then tb σ H1 Q else Q (.bl false) H1
def tNotV (ta : TE) : TE := fun σ H Q => ta σ H fun x H1 => ∃ c, x = .bl c ∧ Q (.bl (!c)) H1
theorem pe_one {op} {t : TE} (h : PE X a t) : PE X (.BoolOp op [a] pos) t := fun pins s σ H Q I hw => BoolOp_one (h pins s σ H Q I hw)
theorem pe_and (ha : PE X a ta) (hb : PE X (.BoolOp .And (b :: rest) pos) tb) : PE X (.BoolOp .And (a :: b :: rest) pos) (tAndV ta tb) := by
  intro pins s σ H Q I h
  refine BoolOp_and (thn (ha pins s σ H _ I h) fun v s1 ⟨x, H1, I1, r1, q1⟩ => ?_)
  obtain ⟨c, rfl, q1⟩ := q1
  cases r1
  refine wpAny_truthy_bool ?_
  cases c with
  | true => exact hb pins s1 σ H1 Q I1 q1
  | false => exact ⟨.bl false, H1, I1, rfl, q1⟩
theorem pe_not (ha : PE X a ta) : PE X (.UnaryOp .Not a pos) (tNotV ta) := by
  intro pins s σ H Q I h
  refine UnaryOp_ (thn (ha pins s σ H _ I h) fun v s1 ⟨x, H1, I1, r1, q1⟩ => ?_)
  obtain ⟨c, rfl, q1⟩ := q1
  cases r1
  exact not_of (wpAny_truthy_bool ⟨.bl (!c), H1, I1, rfl, q1⟩)
end
end L2

namespace L2
open PySem PySem.Spec PyProof.Rows

def SqL (K : PySem.W.Frag) (H : Hp) (a : Addr) (xs : List V) : Prop :=
  Rd H a (.lst xs) ∨
    ∃ (o : Obj) (its : Array Value) (n : Nat), K.lookup a = some o ∧ o.cls = .type "list" ∧ o.dict = none ∧ o.data = .seq its n ∧ its.size ≤ sizeLine ∧ Vals xs its.toList
def SqT (K : PySem.W.Frag) (H : Hp) (a : Addr) (xs : List V) : Prop :=
  Rd H a (.tup xs) ∨
    ∃ (o : Obj) (its : Array Value) (n : Nat), K.lookup a = some o ∧ o.cls = .type "tuple" ∧ o.data = .seq its n ∧ its.size ≤ sizeLine ∧ Vals xs its.toList
def absV : Value → Option V
  | .none => some .non
  | .bool b => some (.bl b)
  | .int i _ => some (.int i)
  | .str x _ => some (.str x)
  | .bytes b _ => some (.byt b)
  | .float b _ => some (.flt b)
  | .ref a => some (.ref a)
  | .type n => some (.ty n)
  | _ => none
theorem RelV.abs {x : V} {u : Value} (r : RelV x u) : absV u = some x := by
  cases x with
  | non => cases r; rfl
  | bl _ => cases r; rfl
  | int _ => obtain ⟨t, rfl⟩ := r; rfl
  | str _ => obtain ⟨t, rfl⟩ := r; rfl
  | byt _ => obtain ⟨t, rfl⟩ := r; rfl
  | flt _ => obtain ⟨t, rfl⟩ := r; rfl
  | ref _ => cases r; rfl
  | ty _ => cases r; rfl
theorem RelV.inj {x y : V} {u : Value} (r : RelV x u) (q : RelV y u) : x = y := Option.some.inj (r.abs.symm.trans q.abs)
theorem Vals.inj : ∀ {xs ys : List V} {us : List Value}, Vals xs us → Vals ys us → xs = ys
  | _, _, _, .nil, .nil => rfl
  | _, _, _, .cons r t, .cons r' t' => by rw [r.inj r', Vals.inj t t']
section
variable {X : Cx} {pins : List (Addr × Obj)} {σ : St} {H : Hp} {s : Shared} {a : Addr} {xs ys : List V}
theorem SqL.of {K : PySem.W.Frag} (h : H a = some (.lst xs)) : SqL K H a xs := .inl (.inl h)
theorem SqT.of {K : PySem.W.Frag} (h : H a = some (.tup xs)) : SqT K H a xs := .inl (.inl h)
theorem Inv.list (I : Inv X pins σ H s) (h : SqL X.K H a xs) : ∃ its : List Value, Vals xs its ∧ PlainL s.heap a its.toArray ∧ xs.length ≤ sizeLine := by
  rcases h with h | ⟨o, its, n, hk, hc, hd, hs, hz, r⟩
  · obtain ⟨z, its, n, r, e⟩ := h.ok I.hok
    exact ⟨its, r, ⟨_, n, e, rfl, rfl, rfl⟩, z⟩
  · refine ⟨its.toList, r, ⟨o, n, I.kIn a o hk, hc, hd, by simpa using hs⟩, ?_⟩
    have e := r.length
    simp only [Array.length_toList] at e
    omega
theorem Inv.tuple (I : Inv X pins σ H s) (h : SqT X.K H a xs) : ∃ its : List Value, Vals xs its ∧ IsTup s.heap a its.toArray ∧ xs.length ≤ sizeLine := by
  rcases h with h | ⟨o, its, n, hk, hc, hs, hz, r⟩
  · obtain ⟨z, its, r, p⟩ := h.ok I.hok
    exact ⟨its, r, p, z⟩
  · refine ⟨its.toList, r, ⟨o, I.kIn a o hk, hc, n, by simpa using hs⟩, ?_⟩
    have e := r.length
    simp only [Array.length_toList] at e
    omega
theorem Inv.list_inj (I : Inv X pins σ H s) (h : SqL X.K H a xs) (h' : SqL X.K H a ys) : xs = ys := by
  obtain ⟨its, r, ⟨o, n, e, _, _, d⟩, _⟩ := I.list h
  obtain ⟨its', r', ⟨o', n', e', _, _, d'⟩, _⟩ := I.list h'
  rw [e] at e'; cases e'
  rw [d] at d'
  injection d' with d1 _
  have : its = its' := by simpa using congrArg Array.toList d1
  subst this
  exact r.inj r'
end

abbrev Cx.wish (X : Cx) (E : Value → Shared → Prop) : Cx := { X with xe := E }
abbrev Cx.nox (X : Cx) : Cx := X.wish fun _ _ => False
theorem Cx.Ok.wish {X : Cx} (ok : X.Ok) (E : Value → Shared → Prop) : (X.wish E).Ok :=
  ⟨ok.mod, ok.kind, ok.glob, ok.blt, ok.above, ok.inj, ok.has, ok.cab, ok.hd, ok.frames, ok.stk, ok.exf, ok.bs, ok.bsz, ok.noex, ok.exfs, ok.funs, ok.frf⟩
theorem Cx.Ok.unwish {X : Cx} {E : Value → Shared → Prop} (ok : (X.wish E).Ok) : X.Ok :=
  ⟨ok.mod, ok.kind, ok.glob, ok.blt, ok.above, ok.inj, ok.has, ok.cab, ok.hd, ok.frames, ok.stk, ok.exf, ok.bs, ok.bsz, ok.noex, ok.exfs, ok.funs, ok.frf⟩
section
variable {X : Cx} {pins : List (Addr × Obj)} {σ : St} {H : Hp} {s : Shared} {E : Value → Shared → Prop}
theorem Inv.wish (I : Inv X pins σ H s) (E : Value → Shared → Prop) : Inv (X.wish E) pins σ H s := ⟨I.ok.wish E, I.os, I.bare, I.base, I.loc, I.cell, I.free, I.freeC, I.pin, I.hok, I.len⟩
theorem Inv.unwish (I : Inv (X.wish E) pins σ H s) : Inv X pins σ H s := ⟨I.ok.unwish, I.os, I.bare, I.base, I.loc, I.cell, I.free, I.freeC, I.pin, I.hok, I.len⟩
theorem SP.unwish {D : Ends} {f : Flow} {s' : Shared} (h : SP (X.wish E) pins D f s') : SP X pins D f s' := by
  cases f with
  | next => obtain ⟨σ', H', I, q⟩ := h; exact ⟨σ', H', I.unwish, q⟩
  | brk => obtain ⟨σ', H', I, q⟩ := h; exact ⟨σ', H', I.unwish, q⟩
  | cont => obtain ⟨σ', H', I, q⟩ := h; exact ⟨σ', H', I.unwish, q⟩
  | ret u => obtain ⟨v, σ', H', I, r, q⟩ := h; exact ⟨v, σ', H', I.unwish, r, q⟩
theorem PSs.nox {st : List Stmt} {t : TS} (h : PSs X.nox st t) : PSs X st t := fun pins s σ H D I hw =>
  wpAny_mono (h pins s σ H D (I.wish _) hw) (fun _ _ q => q.unwish) fun _ _ z => False.elim z
end

section
variable {X : Cx} {st : Stmt} {rest : List Stmt} {t u : TS} {e : Expr} {te : TE} {pos : Pos}
def tNext : TS := fun D σ H => D.nx σ H
def tSeq (t u : TS) : TS := fun D σ H => t { D with nx := u D } σ H
theorem pss_nil : PSs X [] tNext := fun _ _ σ H _ I h => wpAny_execs_nil ⟨σ, H, I, h⟩
theorem pss_cons (h1 : PS X st t) (h2 : PSs X rest u) : PSs X (st :: rest) (tSeq t u) := by
  intro pins s σ H D I h
  refine wpAny_execs_cons (thn (h1 pins s σ H { D with nx := u D } I h) fun f s1 q => ?_)
  cases f with
  | next =>
    obtain ⟨σ', H', I', q⟩ := q
    exact h2 pins s1 σ' H' D I' q
  | ret v => exact q
  | brk => exact q
  | cont => exact q
theorem pss_one (h1 : PS X st t) : PSs X [st] t := by
  intro pins s σ H D I h
  refine wpAny_execs_cons (thn (h1 pins s σ H D I h) fun f s1 q => ?_)
  cases f with
  | next => exact wpAny_execs_nil q
  | ret v => exact q
  | brk => exact q
  | cont => exact q
theorem Inv.quiet {pins : List (Addr × Obj)} {σ : St} {H : Hp} {s : Shared} (I : Inv X pins σ H s) : interactive X.env = false := by simp [interactive, I.ok.kind]
def tDrop (te : TE) : TS := fun D σ H => te σ H fun _ H1 => D.nx σ H1
theorem ps_expr (he : PE X e te) (hs : swapsWith e none pos.line X.env = pure false := by rfl) : PS X (.Expr e pos) (tDrop te) := by
  intro pins s σ H D I h
  exact wpAny_Expr_any (thn (he pins s σ H _ I h) fun v s1 ⟨x, H1, I1, r1, q1⟩ => ⟨σ, H1, I1, q1⟩) I.quiet hs
def tRet (te : TE) : TS := fun D σ H => te σ H D.rt
theorem ps_ret (he : PE X e te) : PS X (.Return (some e) pos) (tRet te) := by
  intro pins s σ H D I h
  exact wpAny_Return_some (thn (he pins s σ H _ I h) fun v s1 ⟨x, H1, I1, r1, q1⟩ => ⟨x, σ, H1, I1, r1, q1⟩)
def tIfS (c : TT) (t u : TS) : TS := fun D σ H => c σ H fun b H1 => if b = true then t D σ H1 else u D σ H1
theorem ps_if {c : Expr} {a b : List Stmt} {tc : TT} (hc : PT X c tc) (ha : PSs X a t) (hb : PSs X b u) : PS X (.If c a b pos) (tIfS tc t u) := by
  intro pins s σ H D I h
  refine wpAny_If (thn (hc pins s σ H _ I h) fun d s1 ⟨H1, I1, q1⟩ => ?_)
  cases d with
  | true => exact ha pins s1 σ H1 D I1 q1
  | false => exact hb pins s1 σ H1 D I1 q1
end

abbrev TG := V → St → Hp → (St → Hp → Prop) → Prop
abbrev TGs := List V → St → Hp → (St → Hp → Prop) → Prop
def PG (X : Cx) (target : Expr) (t : TG) : Prop :=
  ∀ (pins : List (Addr × Obj)) (s : Shared) (σ : St) (H : Hp) (v : V) (u : Value) (Q : St → Hp → Prop), Inv X pins σ H s → RelV v u → t v σ H Q →
    wpAny (model X.prog X.w) X.A (assign target X.env u) (fun _ s' => ∃ σ' H', Inv X pins σ' H' s' ∧ Q σ' H') X.xe s
def PGs (X : Cx) (ts : List Expr) (t : TGs) : Prop :=
  ∀ (pins : List (Addr × Obj)) (s : Shared) (σ : St) (H : Hp) (vs : List V) (us : List Value) (Q : St → Hp → Prop), Inv X pins σ H s → Vals vs us → t vs σ H Q →
    wpAny (model X.prog X.w) X.A (assignInOrder ((assignEach ts X.env).map (·.2)) us) (fun _ s' => ∃ σ' H', Inv X pins σ' H' s' ∧ Q σ' H') X.xe s
abbrev TSet := V → V → V → Hp → (Hp → Prop) → Prop
def PSet (X : Cx) (t : TSet) : Prop :=
  ∀ (pins : List (Addr × Obj)) (s : Shared) (σ : St) (H : Hp) (o i v : V) (ov iv u : Value) (Q : Hp → Prop), Inv X pins σ H s → RelV o ov → RelV i iv → RelV v u → t o i v H Q →
    wpAny (model X.prog X.w) X.A (setItem ov iv u) (fun _ s' => ∃ H', Inv X pins σ H' s' ∧ Q H') X.xe s
section
variable {X : Cx} {pos : Pos}
def gName (i : Nat) : TG := fun v σ H Q => Q (σ.set i (some v)) H
theorem pg_name {i : Nat} {x : Str} (hN : X.N.Nodup) (hi : X.N[i]? = some x) (hx : Loc X.env.scope x) (hf : X.fn x = true ∨ X.env.scope.names.lookup x = some .local := by first | exact .inl rfl | exact .inr rfl | assumption) : PG X (.Name x pos) (gName i) := by
  intro pins s σ H v u Q I r h
  exact wpAny_assign_Name (store_ok I hN hi hx r (fun s' I' => ⟨_, H, I', h⟩) hf)
def gNil : TGs := fun vs σ H Q => vs = [] ∧ Q σ H
def gCons (t : TG) (u : TGs) : TGs := fun vs σ H Q => ∃ v r, vs = v :: r ∧ t v σ H fun σ' H' => u r σ' H' Q
theorem pgs_nil : PGs X [] gNil := by
  intro pins s σ H vs us Q I r h
  obtain ⟨e, h⟩ := h
  subst e
  cases r
  exact assignInOrder_nil ⟨σ, H, I, h⟩
theorem pgs_cons {e : Expr} {es : List Expr} {t : TG} {u : TGs} (h1 : PG X e t) (h2 : PGs X es u)
    (hs : (assignEach (e :: es) X.env).map (·.2) = assign e X.env :: (assignEach es X.env).map (·.2) := by rfl) : PGs X (e :: es) (gCons t u) := by
  intro pins s σ H vs us Q I r h
  obtain ⟨v, vr, e1, h⟩ := h
  subst e1
  cases r with
  | cons r rr =>
    rw [hs]
    refine assignInOrder_cons (thn (h1 pins s σ H _ _ _ I r h) fun _ s1 ⟨σ1, H1, I1, q1⟩ => ?_)
    exact h2 pins s1 σ1 H1 _ _ Q I1 rr q1
def gTup (K : PySem.W.Frag) (n : Nat) (t : TGs) : TG := fun v σ H Q => ∃ a xs, v = .ref a ∧ SqT K H a xs ∧ xs.length = n ∧ t xs σ H Q
theorem pg_tup {es : List Expr} {k : Nat} {t : TGs} {n : Nat} (hc : X.calm = true) (h : PGs X es t)
    (hn : (assignEach es X.env).length = n := by rfl) (hst : (assignEach es X.env).findIdx? (·.1) = none := by rfl) : PG X (.Tuple es k pos) (gTup X.K n t) := by
  intro pins s σ H v u Q I r hw
  obtain ⟨a, xs, e1, hq, hl, hw⟩ := hw
  subst e1
  cases r
  obtain ⟨its, rv, ht, hz⟩ := I.tuple hq
  refine assign_Tuple_tuple (I.ok.hd hc) ht (by simp [hn, ← hl, rv.length]) hst fun h' hx => ?_
  have I1 : Inv X pins σ H { s with heap := h' } := I.kept (t' := s.toks) fun b o e => hx b o (Nat.ne_of_lt (Heap.lt_size e)) e
  exact h pins _ σ H xs _ Q I1 (by simpa using rv) hw
def gSub (to ti : TE) (t : TSet) : TG := fun v σ H Q => to σ H fun o H1 => ti σ H1 fun i H2 => t o i v H2 fun H3 => Q σ H3
theorem pg_sub {o i : Expr} {to ti : TE} {t : TSet} (ho : PE X o to) (hi : PE X i ti) (hs : PSet X t)
    (ha : ∀ v, assign (.Subscript o i pos) X.env v = (do
      let ov ← holding [v] (eval o X.env)
      let iv ← holding [v, ov] (eval i X.env)
      standAt pos
      holding [v, ov, iv] (setItem ov iv v)
      release [v, ov, iv] []) := by intro _; rfl) : PG X (.Subscript o i pos) (gSub to ti t) := by
  intro pins s σ H v u Q I r h
  rw [ha]
  refine wpAny_bind (wpAny_holding (thn (ho pins s σ H _ I h) fun ov s1 ⟨x, H1, I1, r1, q1⟩ => ?_))
  refine wpAny_bind (wpAny_holding (thn (hi pins s1 σ H1 _ I1 q1) fun iv s2 ⟨y, H2, I2, r2, q2⟩ => ?_))
  refine wpAny_bind (wpAny_standAt (wpAny_bind (wpAny_holding (thn (hs pins s2 σ H2 x y v ov iv u _ I2 r1 r2 r q2) fun _ s3 ⟨H3, I3, q3⟩ => ?_))))
  exact wpAny_release ⟨σ, H3, I3, q3⟩
def tAsg (te : TE) (g : TG) : TS := fun D σ H => te σ H fun x H1 => g x σ H1 D.nx
theorem ps_asg {tg e : Expr} {te : TE} {g : TG} (he : PE X e te) (hg : PG X tg g) (hs : swapsWithSole [tg] e pos.line X.env = pure false := by rfl) (hw : swappedStores [tg] e X.env = pure none := by rfl)
    (h1 : (assignEach [tg] X.env).map (·.2) = [assign tg X.env] := by rfl) : PS X (.Assign [tg] e pos) (tAsg te g) := by
  intro pins s σ H D I h
  refine wpAny_Assign_stores (thn (he pins s σ H _ I h) fun v s1 ⟨x, H1, I1, r1, q1⟩ => ?_) hs hw
  rw [h1]
  exact thn (hg pins s1 σ H1 x v _ I1 r1 q1) fun _ s2 q => q
theorem ps_set {i : Nat} {x : Str} {e : Expr} {te : TE} {pos' : Pos} (hN : X.N.Nodup) (hi : X.N[i]? = some x) (hx : Loc X.env.scope x) (he : PE X e te) (hs : swapsWith e (some (.Name x pos')) pos.line X.env = pure false := by rfl) (hf : X.fn x = true ∨ X.env.scope.names.lookup x = some .local := by first | exact .inl rfl | exact .inr rfl | assumption) :
    PS X (.Assign [.Name x pos'] e pos) (tAsg te (gName i)) := by
  intro pins s σ H D I h
  refine wpAny_Assign_Name (thn (he pins s σ H _ I h) fun v s1 ⟨y, H1, I1, r1, q1⟩ => ?_) hs
  exact store_ok I1 hN hi hx r1 (fun s2 I2 => ⟨_, H1, I2, q1⟩) hf
end

section
variable {X : Cx} {pos : Pos}
end

structure It where
  go : Nat → Hp → Prop
  yld : Nat → Hp → V → Hp → Prop
  stop : Nat → Hp → Prop
def FpOk (X : Cx) (pins : List (Addr × Obj)) (H : Hp) (b : Addr) : Prop :=
  H b = none ∧ b ≠ X.env.locals ∧ b ∉ X.fs ∧ (b ∈ X.ex ∨ X.s₀.heap.objs.size ≤ b) ∧ (∀ x c, X.env.cells.lookup x = some c → c ≠ b) ∧ ∀ p ∈ X.pn ++ pins, p.1 ≠ b
theorem Inv.fpOk {X : Cx} {pins : List (Addr × Obj)} {σ : St} {H H' : Hp} {s : Shared} {b : Addr} (I : Inv X pins σ H s) (hb : s.heap.objs.size ≤ b) (hn : H' b = none) : FpOk X pins H' b := by
  refine ⟨hn, Nat.ne_of_gt (Nat.lt_of_lt_of_le I.lt hb), I.nofs hb, .inr (Nat.le_trans I.sz hb), fun x c e z => ?_, fun p hp z => ?_⟩
  · obtain ⟨v, q⟩ := I.cell x c e
    exact absurd (Nat.lt_of_lt_of_le q.lt (by rw [z]; exact hb)) (Nat.lt_irrefl _)
  · exact absurd (Nat.lt_of_lt_of_le (Heap.lt_size (I.pin p hp).1) (by rw [z]; exact hb)) (Nat.lt_irrefl _)
structure Turn (P : Program) (w : World) (K : PySem.W.Frag) (tg : Expr) (J : It) (fp : List Addr) (it : Addr) (tn : Nat → Heap → Prop) : Prop where
  mem : it ∈ fp
  obj : ∀ i h, tn i h → ∀ b ∈ fp, ∃ o, h.get? b = some o ∧ ∀ v, o.data ≠ .cell v
  keep : ∀ i h h', tn i h → (∀ b ∈ fp, ∀ o, h.get? b = some o → h'.get? b = some o) → tn i h'
  item : ∀ (X : Cx), X.prog = P → X.w = w → X.K = K → X.calm = true → ∀ (i : Nat) (pins : List (Addr × Obj)) (s : Shared) (σ : St) (H : Hp) (E : Value → Shared → Prop), Inv X pins σ H s → (∀ b ∈ fp, FpOk X pins H b) → tn i s.heap → J.go i H →
    wpAny (model P w) X.A (pyNext (.ref it)) (fun r s1 => ∃ u, r = some u ∧
      wpAny (model P w) X.A (letOwnedTupleGo tg (.ref it) u) (fun _ s2 => ∃ x H', Inv X pins σ H' s2 ∧ RelV x u ∧ J.yld i H x H' ∧ tn (i + 1) s2.heap ∧ ∀ b ∈ fp, H' b = none) E s1) E s
  done : ∀ (X : Cx), X.prog = P → X.w = w → X.K = K → X.calm = true → ∀ (i : Nat) (pins : List (Addr × Obj)) (s : Shared) (σ : St) (H : Hp) (E : Value → Shared → Prop), Inv X pins σ H s → (∀ b ∈ fp, FpOk X pins H b) → tn i s.heap → J.stop i H →
    wpAny (model P w) X.A (pyNext (.ref it)) (fun r s1 => r = none ∧ Inv X pins σ H s1) E s
  self : ∀ (A : Around) (i : Nat) (s : Shared) (Q : Value → Shared → Prop) (E : Value → Shared → Prop), tn i s.heap → Q (.ref it) s → wpAny (model P w) A (pyIter (.ref it)) Q E s
abbrev TI := St → Hp → (It → Hp → Prop) → Prop
def PIE (X : Cx) (pins : List (Addr × Obj)) (σ : St) (tg : Expr) (R : It → Hp → Prop) (itv : Value) (s2 : Shared) : Prop :=
  ∃ (it : Addr) (fp : List Addr) (tn : Nat → Heap → Prop) (J : It) (H' : Hp), itv = .ref it ∧ Inv X pins σ H' s2 ∧ Turn X.prog X.w X.K tg J fp it tn ∧ tn 0 s2.heap ∧ (∀ b ∈ fp, FpOk X pins H' b) ∧ R J H'
def PI (X : Cx) (tg iter : Expr) (wi : TI) : Prop :=
  ∀ (pins : List (Addr × Obj)) (s : Shared) (σ : St) (H : Hp) (R : It → Hp → Prop), Inv X pins σ H s → wi σ H R →
    wpAny (model X.prog X.w) X.A (eval iter X.env) (fun v s1 => wpAny (model X.prog X.w) X.A (pyIter v) (PIE X pins σ tg R) X.xe s1) X.xe s

theorem go_of {M : Model} {A : Around} {E : Value → Shared → Prop} {s : Shared} {tg : Expr} {it : Addr} {u : Value} {o : Obj} {n : String} {vs : Array Value} {Q : Unit → Shared → Prop} (ho : s.heap.get? it = some o) (hc : o.cls = .type n) (hd : o.data = .fields vs)
    (hn : ["enumerate", "zip", "dict_itemiterator", "dict_reverseitemiterator", "odict_iterator", "itertools.zip_longest", "itertools.pairwise"].contains n = false) (hQ : Q () s) : wpAny M A (letOwnedTupleGo tg (.ref it) u) Q E s := by
  unfold letOwnedTupleGo
  cases tg <;> first
    | exact wpAny_pure hQ
    | (cases u <;> first
        | exact wpAny_pure hQ
        | (refine wpAny_bind (wpAny_load ho ?_)
           rw [hc, hd]
           show wpAny M A (if (["enumerate", "zip", "dict_itemiterator", "dict_reverseitemiterator", "odict_iterator", "itertools.zip_longest", "itertools.pairwise"].contains n && vs[0]? == some (rawInt _)) = true then _ else _) Q E s
           rw [if_neg (by intro h; rw [hn, Bool.false_and] at h; cases h)]
           exact wpAny_pure hQ))

def Itl (K : PySem.W.Frag) (a : Addr) : It :=
  ⟨fun i H => ∃ xs x, SqL K H a xs ∧ xs[i]? = some x, fun i H x H' => H' = H ∧ ∀ xs, SqL K H a xs → xs[i]? = some x, fun i H => ∃ xs, SqL K H a xs ∧ xs.length ≤ i⟩
def Itr (lo : Int) (n : Nat) : It := ⟨fun i _ => i < n, fun i H x H' => H' = H ∧ x = .int (lo + i), fun i _ => n ≤ i⟩
theorem turn_list {P : Program} {w : World} {K : PySem.W.Frag} {tg : Expr} (a it : Addr) : Turn P w K tg (Itl K a) [it] it (fun i h => h.IsListIter it a i) where
  mem := by simp
  obj := fun i h st b hb => by
    have e : b = it := by simpa using hb
    subst e
    obtain ⟨o, e, c, d⟩ := st
    exact ⟨o, e, fun v z => by rw [d] at z; cases z⟩
  keep := fun i h h' st k => st.at fun o e => k it (by simp) o e
  item := by
    intro X hP hw hK hc i pins s σ H E I hf st hg
    subst hP hw hK
    obtain ⟨xs, x, hq, hx⟩ := hg
    obtain ⟨its, rv, p, hz⟩ := I.list hq
    obtain ⟨u, hu, ru⟩ := rv.get hx
    obtain ⟨f0, f1, f2, f3, f4, f5⟩ := hf it (by simp)
    refine wpAny_pyNext_list_item st p.isList (x := u) (by simpa using hu) fun h' st' sb => ?_
    have I1 : Inv X pins σ H { s with heap := h' } := I.turned (t' := s.toks) (fun b o hb e => (sb.2 b hb).trans e) f0 f1 f3 f4 f5
    obtain ⟨o, e, c, d⟩ := id st'
    exact ⟨u, rfl, go_of (s := { s with heap := h' }) e c d (by decide) ⟨x, H, I1, ru, ⟨rfl, fun ys hy => by rw [I.list_inj hy hq]; exact hx⟩, st', fun b hb => (hf b hb).1⟩⟩
  done := by
    intro X hP hw hK hc i pins s σ H E I hf st hg
    subst hP hw hK
    obtain ⟨xs, hq, hx⟩ := hg
    obtain ⟨its, rv, p, hz⟩ := I.list hq
    obtain ⟨f0, f1, f2, f3, f4, f5⟩ := hf it (by simp)
    have hl := rv.length
    exact wpAny_pyNext_list_end (I.ok.hd hc) st p.isList (by simp; omega) fun h' eb => ⟨rfl, I.turned (t' := s.toks) (fun b o hb e => eb b o hb e) f0 f1 f3 f4 f5⟩
  self := fun _ _ _ _ _ st h => wpAny_pyIter_listiter st h
theorem turn_range {P : Program} {w : World} {K : PySem.W.Frag} {tg : Expr} (it : Addr) (lo : Int) (n : Nat) : Turn P w K tg (Itr lo n) [it] it (fun i h => IsRangeIter h it (lo + (i : Nat) * 1) ((n : Int) - (i : Nat)) 1) where
  mem := by simp
  obj := fun i h st b hb => by
    have e : b = it := by simpa using hb
    subst e
    exact ⟨_, st, fun v z => by
      have z' : Data.fields _ = Data.cell v := z
      cases z'⟩
  keep := fun i h h' st k => k it (by simp) _ st
  item := by
    intro X hP hw hK hc i pins s σ H E I hf st hg
    subst hP hw hK
    obtain ⟨f0, f1, f2, f3, f4, f5⟩ := hf it (by simp)
    have W := Walks.range (prog := X.prog) (w := X.w) (I.ok.hd hc) it lo 1 n
    refine W.item i s _ _ hg st fun v h' tk hv st' kk => ?_
    obtain ⟨t, rfl⟩ := hv
    have I1 : Inv X pins σ H { s with heap := h', toks := tk } := I.turned (fun b o hb e => kk b o (by simpa using hb) e) f0 f1 f3 f4 f5
    refine ⟨_, rfl, go_of (s := { s with heap := h', toks := tk }) (n := "range_iterator") st' rfl rfl (by decide) ⟨.int (lo + i), H, I1, ⟨t, ?_⟩, ⟨rfl, rfl⟩, st', fun b hb => (hf b hb).1⟩⟩
    rw [Int.mul_one]
  done := by
    intro X hP hw hK hc i pins s σ H E I hf st hg
    subst hP hw hK
    obtain ⟨f0, f1, f2, f3, f4, f5⟩ := hf it (by simp)
    exact wpAny_pyNext_range_end (I.ok.hd hc) st (by have : n ≤ i := hg; omega) fun h' eb => ⟨rfl, I.turned (t' := s.toks) (fun b o hb e => eb b o hb e) f0 f1 f3 f4 f5⟩
  self := fun _ _ _ _ _ st h => wpAny_pyIter_rangeiter st h
end L2

namespace L2
open PySem PySem.Spec PyProof.Rows
section
variable {X : Cx} {tg : Expr}
def iList (K : PySem.W.Frag) (tl : TE) : TI := fun σ H R => tl σ H fun x H1 => ∃ a, x = .ref a ∧ (∃ xs, SqL K H1 a xs) ∧ R (Itl K a) H1
theorem pi_list {l : Expr} {tl : TE} (hl : PE X l tl) : PI X tg l (iList X.K tl) := by
  intro pins s σ H R I h
  refine thn (hl pins s σ H _ I h) fun v s1 ⟨x, H1, I1, r1, q1⟩ => ?_
  obtain ⟨a, e, ⟨xs, hq⟩, q⟩ := q1
  subst e
  cases r1
  obtain ⟨its, rv, p, hz⟩ := I1.list hq
  refine wpAny_pyIter_list p.isList ?_
  refine ⟨s1.heap.objs.size, [s1.heap.objs.size], _, _, H1, rfl, I1.kept (t' := s1.toks) fun b o e => Heap.get?_push_of_some _ e, turn_list a _, ⟨_, Heap.get?_push_size _ rfl, rfl, rfl⟩, fun b hb => ?_, q⟩
  have e : b = s1.heap.objs.size := by simpa using hb
  subst e
  exact I1.fpOk (Nat.le_refl _) (I1.hok.fresh (Nat.le_refl _))
theorem range_it {pins : List (Addr × Obj)} {σ : St} {H : Hp} {s : Shared} {R : It → Hp → Prop} {E : Value → Shared → Prop} {lo hi : Int} {t u v : Tok} {tk : Nat} (I : Inv X pins σ H s) (h1 : -(2 ^ 62) ≤ lo) (h2 : lo < 2 ^ 62) (h3 : -(2 ^ 62) ≤ hi) (h4 : hi < 2 ^ 62)
    (q : R (Itr lo (hi - lo).toNat) H) : wpAny (model X.prog X.w) X.A (pyIter (.ref s.heap.objs.size)) (PIE X pins σ tg R) E { s with heap := s.heap.push { cls := .type "range", data := .fields #[.int lo t, .int hi u, .int 1 v] }, toks := tk } := by
  refine wpAny_pyIter_range (IsRange.new ..) (small_one h1 h2 h3 h4) ?_
  have I1 : Inv X pins σ H { s with heap := s.heap.push { cls := .type "range", data := .fields #[.int lo t, .int hi u, .int 1 v] }, toks := tk } := I.kept fun b o e => Heap.get?_push_of_some _ e
  refine ⟨(s.heap.push { cls := .type "range", data := .fields #[.int lo t, .int hi u, .int 1 v] }).objs.size, [(s.heap.push { cls := .type "range", data := .fields #[.int lo t, .int hi u, .int 1 v] }).objs.size], _, _, H, rfl,
    I1.kept (t' := tk) fun b o e => Heap.get?_push_of_some _ e, turn_range _ lo (hi - lo).toNat, ?_, fun b hb => ?_, q⟩
  · have e1 : lo + ((0 : Nat) : Int) * 1 = lo := by simp
    have e2 : (((hi - lo).toNat : Nat) : Int) - ((0 : Nat) : Int) = Builtin.Range.rangeSize lo hi 1 := by rw [rangeSize_one]; split <;> omega
    show IsRangeIter _ _ (lo + ((0 : Nat) : Int) * 1) ((((hi - lo).toNat : Nat) : Int) - ((0 : Nat) : Int)) 1
    rw [e1, e2]
    exact Heap.get?_push_size _ rfl
  · have e : b = (s.heap.push { cls := .type "range", data := .fields #[.int lo t, .int hi u, .int 1 v] }).objs.size := by simpa using hb
    subst e
    exact I1.fpOk (Nat.le_refl _) (I1.hok.fresh (Nat.le_refl _))
def iRng1 (ta : TA) : TI := fun σ H R => ta σ H fun vs H1 => ∃ j : Int, vs = [.int j] ∧ -(2 ^ 62) ≤ j ∧ j < 2 ^ 62 ∧ R (Itr 0 j.toNat) H1
theorem pi_range1 {a : Expr} {ta : TA} {p pos : Pos} (hg : Gl X "range") (hm : X.mg "range" = none) (ha : PA X [a] ta) (hs : starEach [a] X.env = [(false, eval a X.env)] := by rfl) : PI X tg (.Call (.Name "range" p) [a] [] pos) (iRng1 ta) := by
  intro pins s σ H R I h
  refine Call_ (ld_blt I hg hm boot_range (PyProof.Rows.callWith_type1 (thn (ha pos pins s σ H _ I h) fun us s1 ⟨vs, H1, I1, r1, q1⟩ => ?_) hs rfl))
  obtain ⟨j, e, q1, q2, q⟩ := q1
  subst e
  cases r1 with
  | cons r rr =>
    cases rr
    obtain ⟨t, rfl⟩ := r
    exact call_range_1 (range_it I1 (by omega) (by omega) q1 q2 (by simpa using q))
def tFor (wi : TI) (g : TG) (tb : TS) : TS := fun D σ H => wi σ H fun J H1 => ∃ W : Nat → Nat → St → Hp → Prop, (∃ m, W 0 m σ H1) ∧ ∀ i m σ H, W i m σ H →
  (J.stop i H ∧ D.nx σ H) ∨ (J.go i H ∧ ∃ N : St → Hp → Prop, (∀ σ' H', N σ' H' → ∃ m', m' < m ∧ W (i + 1) m' σ' H') ∧ ∀ x H', J.yld i H x H' → g x σ H' fun σ2 H2 => tb { D with nx := N, ct := N, bk := D.nx } σ2 H2)
def pinsAt (fp : List Addr) (h : Heap) : List (Addr × Obj) := fp.filterMap fun b => (h.get? b).map fun o => (b, o)
theorem mem_pinsAt {fp : List Addr} {h : Heap} {b : Addr} {o : Obj} (hb : b ∈ fp) (e : h.get? b = some o) : (b, o) ∈ pinsAt fp h := List.mem_filterMap.mpr ⟨b, hb, by rw [e]; rfl⟩
theorem of_pinsAt {fp : List Addr} {h : Heap} {p : Addr × Obj} (hp : p ∈ pinsAt fp h) : p.1 ∈ fp ∧ h.get? p.1 = some p.2 := by
  obtain ⟨b, hb, e⟩ := List.mem_filterMap.mp hp
  cases q : h.get? b with
  | none => rw [q] at e; cases e
  | some o =>
    rw [q] at e
    have e' : (b, o) = p := Option.some.inj e
    subst e'
    exact ⟨hb, q⟩
theorem Inv.pinned {pins : List (Addr × Obj)} {σ : St} {H : Hp} {s : Shared} {fp : List Addr} (I : Inv X pins σ H s) (hf : ∀ b ∈ fp, FpOk X pins H b) (ho : ∀ b ∈ fp, ∃ o, s.heap.get? b = some o ∧ ∀ v, o.data ≠ .cell v) : Inv X (pins ++ pinsAt fp s.heap) σ H s :=
  I.pins_of fun p hp => (List.mem_append.mp hp).elim (fun z => I.pin p (List.mem_append_right _ z)) fun z => by
    obtain ⟨hb, e⟩ := of_pinsAt z
    obtain ⟨f0, f1, f2, _⟩ := hf p.1 hb
    obtain ⟨o, e', d⟩ := ho p.1 hb
    rw [e] at e'; cases e'
    exact ⟨e, f0, f1, f2, d⟩
theorem Inv.unpinned {pins pl : List (Addr × Obj)} {σ : St} {H : Hp} {s : Shared} (I : Inv X (pins ++ pl) σ H s) : Inv X pins σ H s := I.pins_of fun p hp => I.pin p (List.mem_append_right _ (List.mem_append_left _ hp))
theorem ps_for {iter : Expr} {body : List Stmt} {wi : TI} {g : TG} {tb : TS} {pos : Pos} (hp : PassesOwn (model X.prog X.w) X.A X.env X.xe) (hc : X.calm = true) (hi : PI X tg iter wi) (hg : PG X tg g) (hb : PSs X body tb)
    (hs : ∀ x, foldedSetIterable iter X.env x = pure x := by intro _; rfl) : PS X (.For tg iter body [] pos) (tFor wi g tb) := by
  intro pins s σ H D I h
  refine wpAny_For (thn (hi pins s σ H _ I h) fun v s1 h1 => thn h1 fun itv s2 h2 => ?_) hs
  obtain ⟨it, fp, tn, J, H2, e, I2, T, st2, f2, W, ⟨m0, w0⟩, turn⟩ := h2
  subst e
  -- what stays true of the iterator's objects through the loop
  have stat : ∀ {H' : Hp}, (∀ b ∈ fp, H' b = none) → ∀ b ∈ fp, FpOk X pins H' b := fun hn b hb => ⟨hn b hb, (f2 b hb).2⟩
  refine codeAny_forLoop_any (fun n s' => ∃ i σ' H', Inv X pins σ' H' s' ∧ tn i s'.heap ∧ (∀ b ∈ fp, H' b = none) ∧ W i n σ' H') ?_ m0 ⟨0, σ, H2, I2, st2, fun b hb => (f2 b hb).1, w0⟩
  rintro n s3 ⟨i, σ3, H3, I3, st3, fr3, w3⟩
  rcases turn i n σ3 H3 w3 with ⟨stop, qn⟩ | ⟨go, N, hN, step⟩
  · refine wpAny_passesOwn hp (thn (T.done X rfl rfl rfl hc i pins s3 σ3 H3 X.xe I3 (stat fr3) st3 stop) fun r s4 ⟨hr, I4⟩ => ?_)
    subst hr
    exact wpAny_execs_nil ⟨σ3, H3, I4, qn⟩
  · refine wpAny_passesOwn hp (thn (T.item X rfl rfl rfl hc i pins s3 σ3 H3 X.xe I3 (stat fr3) st3 go) fun r s4 ⟨u, hr, h4⟩ => ?_)
    subst hr
    refine wpAny_passesOwn hp (thn h4 fun _ s5 ⟨x, H5, I5, r5, y5, st5, fr5⟩ => ?_)
    have I5' := I5.pinned (stat fr5) (T.obj _ _ st5)
    refine wpAny_passesOwn hp (thn (hg _ s5 σ3 H5 x u _ I5' r5 (step x H5 y5)) fun _ s6 ⟨σ6, H6, I6, q6⟩ => ?_)
    refine wpAny_passesOwn hp (thn (hb _ s6 σ6 H6 _ I6 q6) fun f s7 q7 => ?_)
    have again : ∀ {σ7 : St} {H7 : Hp}, Inv X (pins ++ pinsAt fp s5.heap) σ7 H7 s7 → N σ7 H7 → ∃ m, m < n ∧ ∃ i σ' H', Inv X pins σ' H' s7 ∧ tn i s7.heap ∧ (∀ b ∈ fp, H' b = none) ∧ W i m σ' H' := fun {σ7 H7} I7 n7 => by
      obtain ⟨m', hm, w7⟩ := hN σ7 H7 n7
      refine ⟨m', hm, i + 1, σ7, H7, I7.unpinned, T.keep _ _ _ st5 fun b hb o e => (I7.pin (b, o) (List.mem_append_right _ (List.mem_append_right _ (mem_pinsAt hb e)))).1, fun b hb => ?_, w7⟩
      obtain ⟨o, e, d⟩ := T.obj _ _ st5 b hb
      exact (I7.pin (b, o) (List.mem_append_right _ (List.mem_append_right _ (mem_pinsAt hb e)))).2.1
    cases f with
    | next => obtain ⟨σ7, H7, I7, n7⟩ := q7; exact again I7 n7
    | cont => obtain ⟨σ7, H7, I7, n7⟩ := q7; exact again I7 n7
    | brk => obtain ⟨σ7, H7, I7, q7⟩ := q7; exact ⟨σ7, H7, I7.unpinned, q7⟩
    | ret v => obtain ⟨x7, σ7, H7, I7, r7, q7⟩ := q7; exact ⟨x7, σ7, H7, I7.unpinned, r7, q7⟩
end

theorem for_list {K : PySem.W.Frag} {a : Addr} {xs : List V} {g : TG} {tb : TS} {D : Ends} {σ : St} {H : Hp} (Pv : Nat → St → Hp → Prop) (h0 : Pv 0 σ H) (hl : ∀ i σ H, i ≤ xs.length → Pv i σ H → SqL K H a xs)
    (hs : ∀ i x σ H, xs[i]? = some x → Pv i σ H → g x σ H fun σ2 H2 => tb { D with nx := Pv (i + 1), ct := Pv (i + 1), bk := D.nx } σ2 H2) (hd : ∀ σ H, Pv xs.length σ H → D.nx σ H) :
    ∃ W : Nat → Nat → St → Hp → Prop, (∃ m, W 0 m σ H) ∧ ∀ i m σ H, W i m σ H →
      ((Itl K a).stop i H ∧ D.nx σ H) ∨ ((Itl K a).go i H ∧ ∃ N : St → Hp → Prop, (∀ σ' H', N σ' H' → ∃ m', m' < m ∧ W (i + 1) m' σ' H') ∧ ∀ x H', (Itl K a).yld i H x H' → g x σ H' fun σ2 H2 => tb { D with nx := N, ct := N, bk := D.nx } σ2 H2) := by
  refine ⟨fun i m σ H => m = xs.length - i ∧ i ≤ xs.length ∧ Pv i σ H, ⟨xs.length, by simp, Nat.zero_le _, h0⟩, ?_⟩
  rintro i m σ H ⟨rfl, hi, p⟩
  have q := hl i σ H hi p
  by_cases hlt : i < xs.length
  · refine .inr ⟨⟨xs, xs[i], q, by simp [hlt]⟩, Pv (i + 1), fun σ' H' p' => ⟨xs.length - (i + 1), by omega, rfl, hlt, p'⟩, fun x H' y => ?_⟩
    obtain ⟨e, y⟩ := y
    subst e
    exact hs i x σ _ (y xs q) p
  · have e : i = xs.length := by omega
    subst e
    exact .inl ⟨⟨xs, q, Nat.le_refl _⟩, hd σ H p⟩
theorem for_range {lo : Int} {n : Nat} {g : TG} {tb : TS} {D : Ends} {σ : St} {H : Hp} (Pv : Nat → St → Hp → Prop) (h0 : Pv 0 σ H)
    (hs : ∀ i σ H, i < n → Pv i σ H → g (.int (lo + i)) σ H fun σ2 H2 => tb { D with nx := Pv (i + 1), ct := Pv (i + 1), bk := D.nx } σ2 H2) (hd : ∀ σ H, Pv n σ H → D.nx σ H) :
    ∃ W : Nat → Nat → St → Hp → Prop, (∃ m, W 0 m σ H) ∧ ∀ i m σ H, W i m σ H →
      ((Itr lo n).stop i H ∧ D.nx σ H) ∨ ((Itr lo n).go i H ∧ ∃ N : St → Hp → Prop, (∀ σ' H', N σ' H' → ∃ m', m' < m ∧ W (i + 1) m' σ' H') ∧ ∀ x H', (Itr lo n).yld i H x H' → g x σ H' fun σ2 H2 => tb { D with nx := N, ct := N, bk := D.nx } σ2 H2) := by
  refine ⟨fun i m σ H => m = n - i ∧ i ≤ n ∧ Pv i σ H, ⟨n, by simp, Nat.zero_le _, h0⟩, ?_⟩
  rintro i m σ H ⟨rfl, hi, p⟩
  by_cases hlt : i < n
  · refine .inr ⟨hlt, Pv (i + 1), fun σ' H' p' => ⟨n - (i + 1), by omega, rfl, hlt, p'⟩, fun x H' y => ?_⟩
    obtain ⟨e, y⟩ := y
    subst e y
    exact hs i σ _ hlt p
  · have e : i = n := by omega
    subst e
    exact .inl ⟨Nat.le_refl _, hd σ H p⟩
end L2

namespace L2
open PySem PySem.Spec PyProof.Rows

abbrev R2 := V → V → Hp → VK → Prop
def OpR (X : Cx) (f : Value → Value → Sem Value) (r : R2) : Prop :=
  ∀ (pins : List (Addr × Obj)) (s : Shared) (σ : St) (H : Hp) (x y : V) (v u : Value) (Q : VK), Inv X pins σ H s → RelV x v → RelV y u → r x y H Q →
    wpAny (model X.prog X.w) X.A (f v u) (EP X pins σ Q) X.xe s
def UnR (X : Cx) (f : Value → Sem Value) (r : V → Hp → VK → Prop) : Prop :=
  ∀ (pins : List (Addr × Obj)) (s : Shared) (σ : St) (H : Hp) (x : V) (v : Value) (Q : VK), Inv X pins σ H s → RelV x v → r x H Q →
    wpAny (model X.prog X.w) X.A (f v) (EP X pins σ Q) X.xe s
def CallR (X : Cx) (f : Value) (r : List V → Hp → VK → Prop) : Prop :=
  ∀ (pins : List (Addr × Obj)) (s : Shared) (σ : St) (H : Hp) (xs : List V) (us : List Value) (Q : VK), Inv X pins σ H s → Vals xs us → r xs H Q →
    wpAny (model X.prog X.w) X.A (call f us) (EP X pins σ Q) X.xe s
def tOp (r : R2) (ta tb : TE) : TE := fun σ H Q => ta σ H fun x H1 => tb σ H1 fun y H2 => r x y H2 Q
def tUn (r : V → Hp → VK → Prop) (ta : TE) : TE := fun σ H Q => ta σ H fun x H1 => r x H1 Q
def rI (C : Int → Int → Prop) (g : Int → Int → V) : R2 := fun x y H Q => ∃ i j, x = .int i ∧ y = .int j ∧ C i j ∧ Q (g i j) H
def rI0 (g : Int → Int → V) : R2 := fun x y H Q => ∃ i j, x = .int i ∧ y = .int j ∧ Q (g i j) H
def rU (g : Int → V) : V → Hp → VK → Prop := fun x H Q => ∃ i, x = .int i ∧ Q (g i) H

section
variable {X : Cx} {a b c : Expr} {ta tb tc : TE} {pos : Pos}

theorem binT (ha : PE X a ta) (hb : PE X b tb) {pins : List (Addr × Obj)} {s : Shared} {σ : St} {H : Hp} {R : V → V → Hp → Prop} (I : Inv X pins σ H s)
    (h : ta σ H fun x H1 => tb σ H1 fun y H2 => R x y H2) {Q : Value → Shared → Prop} {f : Value → Value → Sem Value}
    (hf : ∀ v u s2 x y H2, Inv X pins σ H2 s2 → RelV x v → RelV y u → R x y H2 → wpAny (model X.prog X.w) X.A (f v u) Q X.xe s2) :
    wpAny (model X.prog X.w) X.A (eval a X.env) (fun v s₁ => wpAny (model X.prog X.w) X.A (eval b X.env) (fun u s₂ => wpAny (model X.prog X.w) X.A (f v u) Q X.xe s₂) X.xe s₁) X.xe s := by
  refine thn (ha pins s σ H _ I h) fun v s1 ⟨x, H1, I1, r1, q1⟩ => ?_
  refine thn (hb pins s1 σ H1 _ I1 q1) fun u s2 ⟨y, H2, I2, r2, q2⟩ => ?_
  exact hf v u s2 x y H2 I2 r1 r2 q2

theorem pe_op {op : Operator} {r : R2} (ho : OpR X (binaryOp op) r) (ha : PE X a ta) (hb : PE X b tb) : PE X (.BinOp a op b pos) (tOp r ta tb) := by
  intro pins s σ H Q I h
  exact wpAny_BinOp (binT ha hb I h fun v u s2 x y H2 I2 rx ry q => ho pins s2 σ H2 x y v u Q I2 rx ry q)
theorem pe_un {op : UnaryOp} {r : V → Hp → VK → Prop} (ho : UnR X (unaryOp op) r) (ha : PE X a ta) : PE X (.UnaryOp op a pos) (tUn r ta) := by
  intro pins s σ H Q I h
  exact UnaryOp_ (thn (ha pins s σ H _ I h) fun v s1 ⟨x, H1, I1, r1, q1⟩ => ho pins s1 σ H1 x v Q I1 r1 q1)
theorem opI {f : Value → Value → Sem Value} {C : Int → Int → Prop} {g : Int → Int → Int}
    (rule : ∀ (i j : Int) (t u : Tok) (s : Shared) (Q : Value → Shared → Prop) (E : Value → Shared → Prop), C i j → Q (.int (g i j) s.toks) { s with toks := s.toks + 1 } → wpAny (model X.prog X.w) X.A (f (.int i t) (.int j u)) Q E s) :
    OpR X f (rI C fun i j => .int (g i j)) := by
  intro pins s σ H x y v u Q I rx ry h
  obtain ⟨i, j, rfl, rfl, hc, q⟩ := h
  obtain ⟨t, rfl⟩ := rx
  obtain ⟨t', rfl⟩ := ry
  exact rule i j t t' s _ _ hc ⟨.int (g i j), H, I.tok _, ⟨_, rfl⟩, q⟩
theorem opI0 {f : Value → Value → Sem Value} {g : Int → Int → Int}
    (rule : ∀ (i j : Int) (t u : Tok) (s : Shared) (Q : Value → Shared → Prop) (E : Value → Shared → Prop), Q (.int (g i j) s.toks) { s with toks := s.toks + 1 } → wpAny (model X.prog X.w) X.A (f (.int i t) (.int j u)) Q E s) :
    OpR X f (rI0 fun i j => .int (g i j)) := by
  intro pins s σ H x y v u Q I rx ry h
  obtain ⟨i, j, rfl, rfl, q⟩ := h
  obtain ⟨t, rfl⟩ := rx
  obtain ⟨t', rfl⟩ := ry
  exact rule i j t t' s _ _ ⟨.int (g i j), H, I.tok _, ⟨_, rfl⟩, q⟩
theorem opB0 {f : Value → Value → Sem Value} {g : Int → Int → Bool}
    (rule : ∀ (i j : Int) (t u : Tok) (s : Shared) (Q : Value → Shared → Prop) (E : Value → Shared → Prop), Q (.bool (g i j)) s → wpAny (model X.prog X.w) X.A (f (.int i t) (.int j u)) Q E s) :
    OpR X f (rI0 fun i j => .bl (g i j)) := by
  intro pins s σ H x y v u Q I rx ry h
  obtain ⟨i, j, rfl, rfl, q⟩ := h
  obtain ⟨t, rfl⟩ := rx
  obtain ⟨t', rfl⟩ := ry
  exact rule i j t t' s _ _ ⟨.bl (g i j), H, I, rfl, q⟩

def CDiv (i j : Int) : Prop := 0 < j ∧ j < 1073741824
def CPow (i j : Int) : Prop := 0 ≤ j ∧ j ≤ 1000000 ∧ i.natAbs < 2 ^ 64
def CMul (i j : Int) : Prop := (-(2 ^ 64) < i ∧ i < 2 ^ 64) ∨ (-(2 ^ 64) < j ∧ j < 2 ^ 64)
theorem CMul.ok {i j : Int} (h : CMul i j) : IntMulOk i j := by
  rcases h with ⟨h1, h2⟩ | ⟨h1, h2⟩
  · exact .of_left (intBits_le_64 h1 h2)
  · exact .of_right (intBits_le_64 h1 h2)
theorem op_add : OpR X (binaryOp .Add) (rI0 fun i j => .int (i + j)) := opI0 fun _ _ _ _ _ _ _ q => add_int q
theorem op_sub : OpR X (binaryOp .Sub) (rI0 fun i j => .int (i - j)) := opI0 fun _ _ _ _ _ _ _ q => sub_int q
theorem op_mul : OpR X (binaryOp .Mult) (rI CMul fun i j => .int (i * j)) := opI fun _ _ _ _ _ _ _ hc q => mul_int q hc.ok
theorem op_fdiv : OpR X (binaryOp .FloorDiv) (rI CDiv fun i j => .int (i / j)) := opI fun i j _ _ _ _ _ hc q => by
  have h1 : (0 : Int) < j := hc.1
  have h2 : j < 1073741824 := hc.2
  exact floordiv_int (by omega) (by rw [Int.fdiv_eq_ediv_of_nonneg i (by omega)]; exact q) (.inl (PyProof.noPylong_small (by omega)))
theorem op_mod : OpR X (binaryOp .Mod) (rI (fun _ j => 0 < j) fun i j => .int (i % j)) := opI fun i j _ _ _ _ _ hc q => by
  have h1 : (0 : Int) < j := hc
  exact mod_int' (by omega) (by rw [Int.fmod_eq_emod_of_nonneg i (by omega)]; exact q)
theorem op_pow : OpR X (binaryOp .Pow) (rI CPow fun i j => .int (i ^ j.toNat)) := opI fun _ _ _ _ _ _ _ hc q => pow_int_small hc.1 hc.2.1 hc.2.2 q
theorem unI {f : Value → Sem Value} {g : Int → Int}
    (rule : ∀ (i : Int) (t : Tok) (s : Shared) (Q : Value → Shared → Prop) (E : Value → Shared → Prop), Q (.int (g i) s.toks) { s with toks := s.toks + 1 } → wpAny (model X.prog X.w) X.A (f (.int i t)) Q E s) :
    UnR X f (rU fun i => .int (g i)) := by
  intro pins s σ H x v Q I rx h
  obtain ⟨i, rfl, q⟩ := h
  obtain ⟨t, rfl⟩ := rx
  exact rule i t s _ _ ⟨.int (g i), H, I.tok _, ⟨_, rfl⟩, q⟩
theorem un_neg : UnR X (unaryOp .USub) (rU fun i => .int (-i)) := unI fun _ _ _ _ _ q => neg_int q
end

def scal : V → V → Bool
  | .non, .non => true | .non, .int _ => true | .int _, .non => true | .non, .bl _ => true | .bl _, .non => true | .non, .str _ => true | .str _, .non => true
  | .int _, .int _ => true | .bl _, .bl _ => true | .str _, .str _ => true | .byt _, .byt _ => true
  | .int _, .str _ => true | .str _, .int _ => true | .bl _, .str _ => true | .str _, .bl _ => true
  | _, _ => false
def rEq : R2 := fun x y H Q => scal x y = true ∧ Q (.bl (decide (x = y))) H
def rNe : R2 := fun x y H Q => scal x y = true ∧ Q (.bl (!decide (x = y))) H

theorem dec_int {i j : Int} : decide (V.int i = V.int j) = (i == j) := by
  rw [Bool.eq_iff_iff]
  simp
theorem dec_bl {i j : Bool} : decide (V.bl i = V.bl j) = (i == j) := by
  rw [Bool.eq_iff_iff]
  simp
theorem dec_str {i j : Str} : decide (V.str i = V.str j) = (i == j) := by
  rw [Bool.eq_iff_iff]
  simp
theorem dec_byt {i j : Array UInt8} : decide (V.byt i = V.byt j) = (i.toList == j.toList) := by
  rw [Bool.eq_iff_iff]
  cases i
  cases j
  simp

section
variable {X : Cx} {a b c : Expr} {ta tb tc : TE} {pos : Pos}
theorem fin_bl {pins : List (Addr × Obj)} {σ : St} {H : Hp} {s : Shared} {Q : VK} {k k' : Bool} (I : Inv X pins σ H s) (q : Q (.bl k) H) (e : k = k') : EP X pins σ Q (.bool k') s := by
  subst e
  exact ⟨.bl k, H, I, rfl, q⟩
theorem op_eq : OpR X (compareOp .Eq) rEq := by
  intro pins s σ H x y v u Q I rx ry h
  obtain ⟨hs, q⟩ := h
  cases x with
  | non =>
    cases rx
    cases y with
    | non => cases ry; exact PySem.EqNone.eq_none_none (fin_bl I q (by simp))
    | bl j => cases ry; exact PySem.EqNone.eq_none_bool (fin_bl I q (by simp))
    | int j => obtain ⟨t', rfl⟩ := ry; exact PySem.EqNone.eq_none_int (fin_bl I q (by simp))
    | str j => obtain ⟨t', rfl⟩ := ry; exact PySem.EqNone.eq_none_str (fin_bl I q (by simp))
    | _ => exact absurd (show false = true from hs) Bool.false_ne_true
  | bl i =>
    cases rx
    cases y with
    | non => cases ry; exact PySem.EqNone.eq_bool_none (fin_bl I q (by simp))
    | bl j => cases ry; exact eq_bool (fin_bl I q dec_bl)
    | str j => obtain ⟨t', rfl⟩ := ry; exact PySem.EqMixed.eq_bool_str (fin_bl I q (by simp))
    | _ => exact absurd (show false = true from hs) Bool.false_ne_true
  | int i =>
    obtain ⟨t, rfl⟩ := rx
    cases y with
    | non => cases ry; exact PySem.EqNone.eq_int_none (fin_bl I q (by simp))
    | int j => obtain ⟨t', rfl⟩ := ry; exact eq_int (fin_bl I q dec_int)
    | str j => obtain ⟨t', rfl⟩ := ry; exact PySem.EqMixed.eq_int_str (fin_bl I q (by simp))
    | _ => exact absurd (show false = true from hs) Bool.false_ne_true
  | str i =>
    obtain ⟨t, rfl⟩ := rx
    cases y with
    | non => cases ry; exact PySem.EqNone.eq_str_none (fin_bl I q (by simp))
    | bl j => cases ry; exact PySem.EqMixed.eq_str_bool (fin_bl I q (by simp))
    | int j => obtain ⟨t', rfl⟩ := ry; exact PySem.EqMixed.eq_str_int (fin_bl I q (by simp))
    | str j => obtain ⟨t', rfl⟩ := ry; exact eq_str (fin_bl I q dec_str)
    | _ => exact absurd (show false = true from hs) Bool.false_ne_true
  | byt i =>
    obtain ⟨t, rfl⟩ := rx
    cases y with
    | byt j => obtain ⟨t', rfl⟩ := ry; exact PySem.W.eq_bytes (fin_bl I q dec_byt)
    | _ => exact absurd (show false = true from hs) Bool.false_ne_true
  | _ => cases y <;> exact absurd (show false = true from hs) Bool.false_ne_true
theorem op_ne : OpR X (compareOp .NotEq) rNe := by
  intro pins s σ H x y v u Q I rx ry h
  obtain ⟨hs, q⟩ := h
  cases x with
  | non =>
    cases rx
    cases y with
    | non => cases ry; exact PySem.EqNone.ne_none_none (fin_bl I q (by simp))
    | bl j => cases ry; exact PySem.EqNone.ne_none_bool (fin_bl I q (by simp))
    | int j => obtain ⟨t', rfl⟩ := ry; exact PySem.EqNone.ne_none_int (fin_bl I q (by simp))
    | str j => obtain ⟨t', rfl⟩ := ry; exact PySem.EqNone.ne_none_str (fin_bl I q (by simp))
    | _ => exact absurd (show false = true from hs) Bool.false_ne_true
  | bl i =>
    cases rx
    cases y with
    | non => cases ry; exact PySem.EqNone.ne_bool_none (fin_bl I q (by simp))
    | bl j => cases ry; exact ne_bool (fin_bl I q (congrArg not dec_bl))
    | str j => obtain ⟨t', rfl⟩ := ry; exact PySem.EqMixed.ne_bool_str (fin_bl I q (by simp))
    | _ => exact absurd (show false = true from hs) Bool.false_ne_true
  | int i =>
    obtain ⟨t, rfl⟩ := rx
    cases y with
    | non => cases ry; exact PySem.EqNone.ne_int_none (fin_bl I q (by simp))
    | int j => obtain ⟨t', rfl⟩ := ry; exact ne_int (fin_bl I q (congrArg not dec_int))
    | str j => obtain ⟨t', rfl⟩ := ry; exact PySem.EqMixed.ne_int_str (fin_bl I q (by simp))
    | _ => exact absurd (show false = true from hs) Bool.false_ne_true
  | str i =>
    obtain ⟨t, rfl⟩ := rx
    cases y with
    | non => cases ry; exact PySem.EqNone.ne_str_none (fin_bl I q (by simp))
    | bl j => cases ry; exact PySem.EqMixed.ne_str_bool (fin_bl I q (by simp))
    | int j => obtain ⟨t', rfl⟩ := ry; exact PySem.EqMixed.ne_str_int (fin_bl I q (by simp))
    | str j => obtain ⟨t', rfl⟩ := ry; exact ne_str (fin_bl I q (congrArg not dec_str))
    | _ => exact absurd (show false = true from hs) Bool.false_ne_true
  | byt i =>
    obtain ⟨t, rfl⟩ := rx
    cases y with
    | byt j => obtain ⟨t', rfl⟩ := ry; exact PySem.W.ne_bytes (fin_bl I q (congrArg not dec_byt))
    | _ => exact absurd (show false = true from hs) Bool.false_ne_true
  | _ => cases y <;> exact absurd (show false = true from hs) Bool.false_ne_true

theorem op_lt : OpR X (compareOp .Lt) (rI0 fun i j => .bl (decide (i < j))) := opB0 fun _ _ _ _ _ _ _ q => lt_int q
theorem op_le : OpR X (compareOp .LtE) (rI0 fun i j => .bl (decide (i ≤ j))) := opB0 fun _ _ _ _ _ _ _ q => le_int q
theorem op_gt : OpR X (compareOp .Gt) (rI0 fun i j => .bl (decide (j < i))) := opB0 fun _ _ _ _ _ _ _ q => gt_int q
theorem op_ge : OpR X (compareOp .GtE) (rI0 fun i j => .bl (decide (j ≤ i))) := opB0 fun _ _ _ _ _ _ _ q => ge_int q
theorem nomark (b : Expr) {op : CmpOp} (h : op ≠ .In := by decide) (h2 : op ≠ .NotIn := by decide) : behindInMarks op b = false := by
  have e1 : (op == CmpOp.In) = false := by cases op <;> first | rfl | exact absurd rfl h
  have e2 : (op == CmpOp.NotIn) = false := by cases op <;> first | rfl | exact absurd rfl h2
  cases b <;> simp [behindInMarks, e1, e2]
theorem pe_cmpR {op : CmpOp} {r : R2} (ho : OpR X (compareOp op) r) (ha : PE X a ta) (hb : PE X b tb) (hm : behindInMarks op b = false) : PE X (.Compare a [op] [b] pos) (tOp r ta tb) := by
  intro pins s σ H Q I h
  exact wpAny_Compare1 (binT ha hb I h fun v u s2 x y H2 I2 rx ry q => ho pins s2 σ H2 x y v u Q I2 rx ry q) hm
def tTest (t : TE) : TT := fun σ H Q => t σ H fun x H' => ∃ k, x = .bl k ∧ Q k H'
theorem pt_cmpR {op : CmpOp} {r : R2} (ho : OpR X (compareOp op) r) (ha : PE X a ta) (hb : PE X b tb) (hm : behindInMarks op b = false) : PT X (.Compare a [op] [b] pos) (tTest (tOp r ta tb)) := by
  intro pins s σ H Q I h
  refine wpAny_isTrue_Compare1 (thn (ha pins s σ H _ I h) fun v s1 ⟨x, H1, I1, r1, q1⟩ => thn (hb pins s1 σ H1 _ I1 q1) fun u s2 ⟨y, H2, I2, r2, q2⟩ =>
    thn (ho pins s2 σ H2 x y v u _ I2 r1 r2 q2) fun c s3 ⟨z, H3, I3, r3, k, e, q3⟩ => ?_) hm
  subst e
  cases r3
  exact wpAny_truthy_bool ⟨H3, I3, q3⟩
theorem line63 : (sizeLine : Nat) < 2 ^ 63 := by rw [sizeLine_eq]; decide
theorem vals1 {x : V} {us : List Value} (r : Vals [x] us) : ∃ u, us = [u] ∧ RelV x u := by
  cases r with
  | cons r1 r2 => cases r2; exact ⟨_, rfl, r1⟩
theorem vals2 {x y : V} {us : List Value} (r : Vals [x, y] us) : ∃ u w', us = [u, w'] ∧ RelV x u ∧ RelV y w' := by
  cases r with
  | cons r1 r2 =>
    cases r2 with
    | cons r3 r4 => cases r4; exact ⟨_, _, rfl, r1, r3⟩
end
end L2

namespace L2
open PySem PySem.Spec PyProof.Rows

structure ObjM (h : Heap) (x dx C : Addr) (mA : Str → Option Value) : Prop where
  obj : h.get? x = some (PySem.W.instObj C dx)
  ns : h.Ns1 dx mA
  ne : dx ≠ x

theorem lookIn_ns {h : Heap} {dx : Addr} {mA : Str → Option Value} (n : h.Ns1 dx mA) : ∃ od, h.get? dx = some od ∧ ∀ name, PySem.W.lookIn name od = some (mA name) := by
  obtain ⟨o, es, ep, ho, hd, hk, _, hm⟩ := n
  refine ⟨o, ho, fun name => ?_⟩
  have e := hm name
  unfold nsFind findBy at e
  rw [← Array.find?_toList] at e
  unfold PySem.W.lookIn
  rw [hd]
  dsimp only
  split
  · rename_i y q
    rw [q] at e
    exact congrArg some e
  · rename_i q
    rw [q] at e
    have a : es.toList.any (·.refKey) = false := by
      rw [List.any_eq_false]
      intro y hy
      obtain ⟨z, t, hkey⟩ := hk y (Array.mem_toList_iff.mp hy)
      simp [DictEntry.refKey, hkey]
    have a' : ¬ es.toList.any (·.refKey) = true := by rw [a]; exact Bool.false_ne_true
    rw [if_neg a']
    exact congrArg some e

theorem ObjM.look {h : Heap} {x dx C : Addr} {mA : Str → Option Value} (I : ObjM h x dx C mA) : ∃ od, PySem.W.InstAt h x (PySem.W.instObj C dx) C (some od) ∧ ∀ name, PySem.W.lookIn name od = some (mA name) :=
  let ⟨od, ho, hl⟩ := lookIn_ns I.ns
  ⟨od, ⟨I.obj, rfl, rfl, ho⟩, hl⟩

section
variable {prog : Program} {w : World} {A : Around} {E : Value → Shared → Prop} {s : Shared} {K : PySem.W.Frag} {x dx C f : Addr} {mA : Str → Option Value} {name : Str} {v : Value}

end

section
variable {P : Program} {w : World} {H H' : Hp} {h h' : Heap} {a C dx : Addr} {fs fs' : List (Str × V)}
theorem ins_get (hok : HOk P w H h) (e : H a = some (.ins C dx fs)) : ∃ mA, ObjM h a dx C mA ∧ (∀ f, RelO (fs.lookup f) (mA f)) ∧ PySem.Within mA (fs.map (·.1)) ∧ fs.length ≤ 1000 ∧ H dx = some (.own a) := by
  obtain ⟨d, z, ne, ob, mA, n, r, q⟩ := (show ObjOk P w H h a (.ins C dx fs) from hok a _ e)
  exact ⟨mA, ⟨ob, n, ne⟩, r, q, z, d⟩
end

structure Cls (K : PySem.W.Frag) (C : Addr) : Prop where
  pg : PySem.W.plainGet K C Str.empty = true
  hd : PySem.W.hasDictIn K C = true
  po : PySem.W.plainOver K C = true
  sa : PySem.W.findIn K (.ref C) "__setattr__" = some (some (.builtin "object.__setattr__"))
theorem Cls.get {K : PySem.W.Frag} {C : Addr} (c : Cls K C) (f : Str) : PySem.W.plainGet K C f = true := c.pg
section
variable {X : Cx} {pins : List (Addr × Obj)} {σ : St} {H : Hp} {s : Shared} {a C dx : Addr} {fs : List (Str × V)} {f : Str} {v : V} {A : Around} {E : Value → Shared → Prop}

end

section
variable {X : Cx} {o e value : Expr} {f : Str} {pos pos' tpos : Pos} {ta tv : TE}
end

section
variable {X : Cx} {pins : List (Addr × Obj)} {σ : St} {H : Hp} {s : Shared} {A : Around} {E : Value → Shared → Prop} {Q : Value → Shared → Prop} {c : Value} {b : Bool}
inductive TyOf (K : PySem.W.Frag) (H : Hp) : V → Value → Prop where
  | non : TyOf K H .non (.type "NoneType")
  | bl (x : Bool) : TyOf K H (.bl x) (.type "bool")
  | int (i : Int) : TyOf K H (.int i) (.type "int")
  | str (x : Str) : TyOf K H (.str x) (.type "str")
  | flt (x : UInt64) : TyOf K H (.flt x) (.type "float")
  | lst {a : Addr} {xs : List V} (e : H a = some (.lst xs)) : TyOf K H (.ref a) (.type "list")
  | frz {a : Addr} {o : Obj} {xs : List V} (e : H a = some (.frz o (.lst xs))) : TyOf K H (.ref a) (.type "list")
  | tup {a : Addr} {xs : List V} (e : H a = some (.tup xs)) : TyOf K H (.ref a) (.type "tuple")
  | dK {a : Addr} {kvs : List (Key × V)} (e : H a = some (.dK kvs)) : TyOf K H (.ref a) (.type "dict")
  | dT {a : Addr} {kvs : List (List Key × V)} (e : H a = some (.dT kvs)) : TyOf K H (.ref a) (.type "dict")
  | ins {a C dx : Addr} {fs : List (Str × V)} (e : H a = some (.ins C dx fs)) (cl : Cls K C) (ha : PySem.W.findIn K (.ref C) "__class__" = some (some (.builtin "object.__class__")))
      (hn : PySem.W.specialIn K (.builtin "object.__class__") "__get__" = some (some (.builtin "getset_descriptor.__get__"))) (htk : PySem.W.takesIn K (.builtin "object.__class__") = some true)
      (hm : PySem.W.mroIn K C (.type "object") = some true) : TyOf K H (.ref a) (.ref C)
theorem isinst_ok {x : V} {u t : Value} (I : Inv X pins σ H s) (rx : RelV x u) (ty : TyOf X.K H x t) (e : PySem.W.kitOne X.K t c = some b) (h : ∀ tk, Q (.bool b) { s with toks := tk }) :
    wpAny (model X.prog X.w) A (call (.builtin "isinstance") [u, c]) Q E s := by
  cases ty with
  | non => cases (show u = Value.none from rx); exact PySem.W.kia_one PySem.W.kitx_none I.kIn True.intro e (fun z => nomatch z) h
  | bl y => cases (show u = Value.bool y from rx); exact PySem.W.kia_one PySem.W.kitx_bool I.kIn True.intro e (fun z => nomatch z) h
  | int i => obtain ⟨t, q⟩ := (show ∃ t, u = Value.int i t from rx); cases q; exact PySem.W.kia_one PySem.W.kitx_int I.kIn True.intro e (fun z => nomatch z) h
  | str y => obtain ⟨t, q⟩ := (show ∃ t, u = Value.str y t from rx); cases q; exact PySem.W.kia_one PySem.W.kitx_str I.kIn True.intro e (fun z => nomatch z) h
  | flt y => obtain ⟨t, q⟩ := (show ∃ t, u = Value.float y t from rx); cases q; exact PySem.W.kia_one PySem.W.kitx_float I.kIn True.intro e (fun z => nomatch z) h
  | @lst a xs ea =>
    cases (show u = Value.ref a from rx)
    obtain ⟨_, _, n, _, h1⟩ := (show ObjOk X.prog X.w H s.heap a (.lst xs) from I.hok a _ ea)
    exact PySem.W.kia_one PySem.W.kitx_list I.kIn ⟨_, h1, rfl⟩ e (fun z => nomatch z) h
  | @frz a ob xs ea =>
    cases (show u = Value.ref a from rx)
    obtain ⟨_, _, _, n, _, h1⟩ := (show ObjOk X.prog X.w H s.heap a (.frz ob (.lst xs)) from I.hok a _ ea)
    exact PySem.W.kia_one PySem.W.kitx_list I.kIn ⟨_, h1, rfl⟩ e (fun z => nomatch z) h
  | @tup a xs ea =>
    cases (show u = Value.ref a from rx)
    obtain ⟨_, _, _, p⟩ := (show ObjOk X.prog X.w H s.heap a (.tup xs) from I.hok a _ ea)
    obtain ⟨o, h1, h2, _⟩ := p
    exact PySem.W.kia_one PySem.W.kitx_tuple I.kIn ⟨o, h1, h2⟩ e (fun z => nomatch z) h
  | @dK a kvs ea =>
    cases (show u = Value.ref a from rx)
    obtain ⟨_, _, vs, _, p⟩ := (show ObjOk X.prog X.w H s.heap a (.dK kvs) from I.hok a _ ea)
    obtain ⟨o, es, ep, h1, h2, _⟩ := p
    exact PySem.W.kia_one PySem.W.kitx_dict I.kIn ⟨o, h1, h2.1⟩ e (fun z => nomatch z) h
  | @dT a kvs ea =>
    cases (show u = Value.ref a from rx)
    obtain ⟨_, _, xs, _, o, es, ep, h1, h2, _⟩ := (show ObjOk X.prog X.w H s.heap a (.dT kvs) from I.hok a _ ea)
    exact PySem.W.kia_one PySem.W.kitx_dict I.kIn ⟨o, h1, h2.1⟩ e (fun z => nomatch z) h
  | @ins a C dx fs ea cl ha hn htk hm =>
    cases (show u = Value.ref a from rx)
    obtain ⟨mA, O, _⟩ := ins_get I.hok ea
    obtain ⟨od, J, _⟩ := O.look
    exact PySem.W.kia_one (PySem.W.kitx_own (cl.get _) cl.hd ha hn htk hm) I.kIn J e (fun z => nomatch z) h
end
end L2

namespace L2
open PySem PySem.Spec PyProof.Rows

structure Room (k : Nat) (A : Around) : Prop where
  hd : A.handled = none
  dp : A.depth + 3 * k + 5 < recursionLimit
  un : A.units + 16 * k + 200 < cLine
theorem Room.mono {j k : Nat} {A : Around} (r : Room k A) (h : j ≤ k) : Room j A := ⟨r.hd, by have := r.dp; omega, by have := r.un; omega⟩
theorem Room.deeper {k : Nat} {A : Around} (r : Room (k + 1) A) (env : Env) : Room k (A.deeper env) :=
  ⟨r.hd, by have := r.dp; show A.depth + 1 + 3 * k + 5 < _; omega, by have := r.un; show A.units + 3 + 16 * k + 200 < _; omega⟩
theorem Room.depth {k : Nat} {A : Around} (r : Room k A) : A.depth < recursionLimit := by have := r.dp; omega
theorem Room.units {k : Nat} {A : Around} (r : Room k A) : A.units + 64 < cLine := by have := r.un; omega
def tNil : TA := fun _ H Q => Q [] H
def tCons (ta : TE) (tr : TA) : TA := fun σ H Q => ta σ H fun x H1 => tr σ H1 fun xs H2 => Q (x :: xs) H2
section
variable {X : Cx} {e : Expr} {es : List Expr} {te : TE} {t : TA} {pos : Pos}
theorem pa_nil : PA X [] tNil := fun _ _ _ _ H Q I h => Calls.spliced_nil ⟨[], H, I, .nil, h⟩
theorem pa_cons (ha : PE X e te) (hr : PA X es t) (hs : starEach (e :: es) X.env = (false, eval e X.env) :: starEach es X.env := by rfl) : PA X (e :: es) (tCons te t) := by
  intro pos pins s σ H Q I h
  rw [hs]
  show wpAny _ _ (spliced ((false, eval e X.env) :: backTo pos (starEach es X.env))) _ _ s
  refine Calls.spliced_cons (thn (ha pins s σ H _ I h) fun u s1 ⟨x, H1, I1, r1, q1⟩ => ?_)
  exact thn (hr pos pins s1 σ H1 _ I1 q1) fun us s2 ⟨xs, H2, I2, r2, q2⟩ => ⟨x :: xs, H2, I2, .cons r1 r2, q2⟩

def tTup (t : TA) : TE := fun σ H Q => t σ H fun xs H1 => xs.length ≤ sizeLine ∧ ∀ p, H1 p = none → Q (.ref p) (upd H1 p (.tup xs))
def tLst (t : TA) : TE := fun σ H Q => t σ H fun xs H1 => xs.length ≤ sizeLine ∧ ∀ p, H1 p = none → Q (.ref p) (upd H1 p (.lst xs))
theorem pe_tup {x1} (h : PA X es t) : PE X (.Tuple es x1 pos) (tTup t) := by
  intro pins s σ H Q I hq
  refine wpAny_Tuple_spliced (thn (h pos pins s σ H _ I hq) fun us s1 ⟨xs, H1, I1, r, z, q⟩ => ⟨by rw [← r.length]; exact z, ?_⟩)
  have hf : H1 s1.heap.objs.size = none := I1.hok.fresh (Nat.le_refl _)
  refine ⟨.ref s1.heap.objs.size, upd H1 s1.heap.objs.size (.tup xs), I1.laid (t' := s1.toks) (fun b u e => Heap.get?_push_of_some _ e) (Nat.le_refl _) ?_, rfl, q _ hf⟩
  exact ⟨z, us, r, ⟨_, Heap.get?_push_size _ rfl, rfl, _, rfl⟩⟩
theorem pe_lst (h : PA X es t) : PE X (.List es pos) (tLst t) := by
  intro pins s σ H Q I hq
  refine wpAny_List_spliced (thn (h pos pins s σ H _ I hq) fun us s1 ⟨xs, H1, I1, r, z, q⟩ => ⟨by rw [← r.length]; exact z, ?_⟩)
  have hf : H1 s1.heap.objs.size = none := I1.hok.fresh (Nat.le_refl _)
  refine ⟨.ref s1.heap.objs.size, upd H1 s1.heap.objs.size (.lst xs), I1.laid (t' := s1.toks) (fun b u e => Heap.get?_push_of_some _ e) (Nat.le_refl _) ?_, rfl, q _ hf⟩
  exact ⟨z, us, 0, r, Heap.get?_push_size _ rfl⟩
end

abbrev Sp := List V → Hp → VK → XK → Prop
abbrev CXT := List Env → Hp → Shared → XK → Value → Shared → Prop

structure Env0 (P : Program) (w : World) (K : PySem.W.Frag) (mg : Str → Option Value) (base : Heap) (A : Around) (outer : List Env) (s : Shared) (H : Hp) : Prop where
  frames : A.frames = some outer
  mod : Mod K mg base
  bs : ∀ b o, base.get? b = some o → s.heap.get? b = some o ∧ H b = none
  bsz : base.objs.size ≤ s.heap.objs.size
  funs : s.heap.FunFrames base outer
  frf : ∀ b ∈ frs outer, H b = none
  hok : HOk P w H s.heap
  bare : AllBare s.gens
def CE (outer : List Env) (P : Program) (w : World) (H : Hp) (s : Shared) (Q : VK) (u : Value) (s' : Shared) : Prop :=
  ∃ v H', s'.os = s.os ∧ AllBare s'.gens ∧ Un (frs outer) [] H H' s.heap s'.heap ∧ HOk P w H' s'.heap ∧ RelV v u ∧ Q v H'
def CR (CX : CXT) (outer : List Env) (P : Program) (w : World) (H : Hp) (s : Shared) (Q : VK) (E : XK) (r : Result) (s' : Shared) : Prop :=
  match r with
  | .ok (.ret u) => CE outer P w H s Q u s'
  | .ok _ => False
  | .error e => CX outer H s E e s'
structure FnOk (P : Program) (w : World) (K : PySem.W.Frag) (mg : Str → Option Value) (base : Heap) (CX : CXT) (k : Nat) (f : Addr) (fd : FuncData) (ps : List Str) (sp : Sp) : Prop where
  len : ∀ vs H Q E, sp vs H Q E → vs.length = ps.length
  run : ∀ (A : Around) (outer : List Env) (s : Shared) (H : Hp) (args : Args) (us : List Value) (vs : List V) (Q : VK) (E : XK), Room k A → Env0 P w K mg base A outer s H → BindsTo s fd args (ps.zip us) → Vals vs us → sp vs H Q E →
    codeAny (model P w) A (.call (.ref f) args) (CR CX outer P w H s Q E) s
section
variable {X : Cx} {pins : List (Addr × Obj)} {σ : St} {H : Hp} {s s' : Shared}
theorem Inv.env0 (I : Inv X pins σ H s) : Env0 X.prog X.w X.K X.mg X.base X.A X.stack s H :=
  ⟨I.ok.frames, I.ok.mod, I.bs, Nat.le_trans I.ok.bsz I.sz, I.stack, I.stkFree, I.hok, I.bare⟩
theorem Inv.after {Q : VK} {u : Value} (I : Inv X pins σ H s) (h : CE X.stack X.prog X.w H s Q u s') : EP X pins σ Q u s' := by
  obtain ⟨v, H', os, bare, un, hok, r, q⟩ := h
  obtain ⟨hh, g, d, t, os'⟩ := s'
  obtain rfl : os' = s.os := os
  exact ⟨v, H', I.call (h' := hh) (g' := g) (d' := d) (t' := t) (ch := []) un hok bare (fun b z => absurd z (by simp)), r, q⟩
end

def tCall (sp : Sp) (dvs : List V) (E : XK) (t : TA) : TE := fun σ H Q => t σ H fun vs H1 => sp (vs ++ dvs) H1 Q E
def Binds (K : PySem.W.Frag) (fd : FuncData) (ps : List Str) (ds : List Value) : Prop :=
  ∀ (s : Shared) (us : List Value), K.In s.heap → (us ++ ds).length = ps.length → BindsTo s fd ⟨us, []⟩ (ps.zip (us ++ ds))
theorem Binds.all {K : PySem.W.Frag} {fd : FuncData} {ps : List Str} (h : ∀ us : List Value, us.length = ps.length → bindArgs fd ⟨us, []⟩ = pure (ps.zip us)) : Binds K fd ps [] := fun s us _ hl => by
  rw [List.append_nil] at hl ⊢
  exact .of_eq (h us hl)

def Passes (CX : CXT) (X : Cx) (E : XK) : Prop := ∀ (pins : List (Addr × Obj)) (σ : St) (H : Hp) (s : Shared) (e : Value) (s' : Shared), Inv X pins σ H s → CX X.stack H s E e s' → X.xe e s'

section
variable {X : Cx} {CX : CXT} {k : Nat} {f C : Addr} {fd : FuncData} {ps : List Str} {sp : Sp} {dvs : List V} {ds : List Value} {E : XK} {x m : Str} {p pos apos : Pos} {e o : Expr} {es : List Expr} {ta : TE} {t : TA}

theorem run_fn {pins : List (Addr × Obj)} {σ : St} {H : Hp} {s : Shared} {Q : VK} {us : List Value} {vs : List V} (F : FnOk X.prog X.w X.K X.mg X.base CX k f fd ps sp) (hr : Room k X.A) (hb : Binds X.K fd ps ds) (hd : Vals dvs ds) (hx : Passes CX X E)
    (I : Inv X pins σ H s) (r : Vals vs us) (h : sp (vs ++ dvs) H Q E) : wpAny (model X.prog X.w) X.A (call (.ref f) us) (EP X pins σ Q) X.xe s := by
  have r2 : Vals (vs ++ dvs) (us ++ ds) := r.append hd
  have hl : (us ++ ds).length = ps.length := by rw [← r2.length]; exact F.len _ _ _ _ h
  refine wpAny_call (codeAny_mono (F.run X.A X.stack s H ⟨us, []⟩ (us ++ ds) (vs ++ dvs) Q E hr I.env0 (hb s us I.kIn hl) r2 h) fun r s' hq => ?_)
  cases r with
  | error e => exact hx pins σ H s e s' I hq
  | ok fl =>
    cases fl with
    | ret u => exact I.after hq
    | next => exact False.elim hq
    | brk => exact False.elim hq
    | cont => exact False.elim hq

theorem pe_call (F : FnOk X.prog X.w X.K X.mg X.base CX k f fd ps sp) (hr : Room k X.A) (hg : Gl X x) (hm : X.mg x = some (.ref f)) (hk : PySem.W.keepIn X.K (.ref f) = true) (hb : Binds X.K fd ps ds) (hd : Vals dvs ds) (hx : Passes CX X E)
    (ha : PA X (e :: es) t) (hdb : (x == ("__debug__" : Str)) = false := by decide) (he : starEach (e :: es) X.env = (false, eval e X.env) :: starEach es X.env := by rfl) (hpl : (backTo pos (starEach es X.env)).any (·.1) = false := by rfl) :
    PE X (.Call (.Name x p) (e :: es) [] pos) (tCall sp dvs E t) := by
  intro pins s σ H Q I h
  refine wpAny_Call_Name_kw (ld_glob I hg hm ?_ hdb)
  refine PySem.W.callWith_K (h₀ := X.base) I.ok.mod.kin hk (thn (ha pos pins s σ H _ I h) fun us s1 ⟨vs, H1, I1, r, q⟩ => ⟨I1.kIn, ?_⟩) he hpl
  exact run_fn F hr hb hd hx I1 r q
end

section
variable {X : Cx} {CX : CXT} {k : Nat} {f C : Addr} {fd : FuncData} {ps ks : List Str} {sp : Sp} {E : XK} {x m : Str} {p pos apos kpos : Pos} {e o : Expr} {es : List Expr} {kws : List Keyword} {te ta : TE} {t tk : TA} {nm : Option Str}
variable {g : List Value → List Value → List Value} {gV : List V → List V → List V}
end

structure FnScope (N P : List Str) (sc : Scope) : Prop where
  kind : sc.kind = .function
  co : sc.isCoroutine = false
  gen : sc.isGenerator = false
  nd : N.Nodup
  pre : N.take P.length = P
  par : ∀ x ∈ P, sc.names.lookup x = some .local ∨ sc.names.lookup x = some .cell
  nofree : ∀ y ∈ sc.names, y.2 ≠ .free

theorem bindL_out {kindOf : Str → Option NameKind} {x : Str} : ∀ {binds : List (Str × Value)} {m : Str → Option Value}, (∀ v, (x, v) ∉ binds) → bindL kindOf binds m x = m x
  | [], _, _ => rfl
  | (n, v) :: r, m, h => by
    unfold bindL
    rw [bindL_out fun w hw => h w (List.mem_cons_of_mem _ hw)]
    split
    · have : x ≠ n := by rintro rfl; exact h v List.mem_cons_self
      simp [this]
    · rfl
theorem bindC_out {kindOf : Str → Option NameKind} {x : Str} : ∀ {binds : List (Str × Value)} {m : Str → Option Value}, (∀ v, (x, v) ∉ binds) → bindC kindOf binds m x = m x
  | [], _, _ => rfl
  | (n, v) :: r, m, h => by
    unfold bindC
    rw [bindC_out fun w hw => h w (List.mem_cons_of_mem _ hw)]
    split
    · rfl
    · have : x ≠ n := by rintro rfl; exact h v List.mem_cons_self
      simp [this]
theorem bindL_get {kindOf : Str → Option NameKind} {x : Str} {v : Value} : ∀ {P : List Str} {vs : List Value} {i : Nat} {m : Str → Option Value}, P.Nodup → P[i]? = some x → vs[i]? = some v → kindOf x = some .local →
    bindL kindOf (P.zip vs) m x = some v
  | [], _, _, _, _, h, _, _ => by simp at h
  | _ :: _, [], _, _, _, _, h, _ => by simp at h
  | p :: P, w :: vs, 0, m, nd, h1, h2, hk => by
    simp at h1 h2; subst h1; subst h2
    show bindL kindOf ((p, w) :: P.zip vs) m p = _
    unfold bindL
    rw [bindL_out fun v hv => (List.nodup_cons.mp nd).1 (List.of_mem_zip hv).1, if_pos hk]
    simp
  | p :: P, w :: vs, i + 1, m, nd, h1, h2, hk => by
    show bindL kindOf ((p, w) :: P.zip vs) m x = _
    unfold bindL
    exact bindL_get (i := i) (List.nodup_cons.mp nd).2 (by simpa using h1) (by simpa using h2) hk
theorem bindC_get {kindOf : Str → Option NameKind} {x : Str} {v : Value} : ∀ {P : List Str} {vs : List Value} {i : Nat} {m : Str → Option Value}, P.Nodup → P[i]? = some x → vs[i]? = some v → kindOf x ≠ some .local →
    bindC kindOf (P.zip vs) m x = some v
  | [], _, _, _, _, h, _, _ => by simp at h
  | _ :: _, [], _, _, _, _, h, _ => by simp at h
  | p :: P, w :: vs, 0, m, nd, h1, h2, hk => by
    simp at h1 h2; subst h1; subst h2
    show bindC kindOf ((p, w) :: P.zip vs) m p = _
    unfold bindC
    rw [bindC_out fun v hv => (List.nodup_cons.mp nd).1 (List.of_mem_zip hv).1, if_neg hk]
    simp
  | p :: P, w :: vs, i + 1, m, nd, h1, h2, hk => by
    show bindC kindOf ((p, w) :: P.zip vs) m x = _
    unfold bindC
    exact bindC_get (i := i) (List.nodup_cons.mp nd).2 (by simpa using h1) (by simpa using h2) hk

def start (N : List Str) (vs : List V) : St := vs.map some ++ List.replicate (N.length - vs.length) none

def cxOf (CX : CXT) (P : Program) (w : World) (K : PySem.W.Frag) (mg : Str → Option Value) (base : Heap) (N : List Str) (qual : Str) (scope : Scope) (f : Addr) (cd : Value) (A : Around) (outer : List Env) (s : Shared) (H : Hp) (E : XK) : Cx where
  prog := P
  w := w
  K := K
  mg := mg
  base := base
  A := A.deeper (envOfC qual scope s.heap.objs.size f cd)
  N := N
  s₀ := s
  H₀ := H
  env := envOfC qual scope s.heap.objs.size f cd
  outer := outer
  stack := envOfC qual scope s.heap.objs.size f cd :: outer
  ex := []
  calm := true
  fn := fun _ => true
  pn := []
  xe := fun e s' => wpAny (model P w) (A.deeper (envOfC qual scope s.heap.objs.size f cd)) (leaving (envOfC qual scope s.heap.objs.size f cd) e) (fun _ s'' => CX outer H s E e s'') (fun e' s'' => CX outer H s E e' s'') s'

theorem cell_has {sc : Scope} {n : Nat} {x : Str} (h : sc.names.lookup x = some .cell) : ∃ c, (cellsFrom n sc.names []).lookup x = some c := by
  have q := PySem.W.cellsFrom_some sc.names n [] (.inl h)
  exact Option.isSome_iff_exists.mp q

theorem inv_start {CX : CXT} {P : Program} {w : World} {K : PySem.W.Frag} {mg : Str → Option Value} {base : Heap} {N ps : List Str} {qual : Str} {scope : Scope} {f : Addr} {cd : Value} {A : Around} {outer : List Env} {s s1 : Shared} {H : Hp} {E : XK} {us : List Value} {vs : List V}
    (S : FnScope N ps scope) (hd : A.handled = none) (e0 : Env0 P w K mg base A outer s H) (hl : vs.length = ps.length) (r : Vals vs us)
    (x : InCallC s s.heap.objs.size (bindL (envOfC qual scope s.heap.objs.size f cd).kindOf (ps.zip us) fun _ => none) (cellsFrom (s.heap.objs.size + 1) scope.names []) (bindC (envOfC qual scope s.heap.objs.size f cd).kindOf (ps.zip us) fun _ => none) s1) :
    Inv (cxOf CX P w K mg base N qual scope f cd A outer s H E) [] (start N vs) H s1 := by
  have hpl : ps.length ≤ N.length := by have := congrArg List.length S.pre; rw [List.length_take] at this; omega
  obtain ⟨h1, tk, rfl, hk⟩ := x.done
  have noA : ∀ b : Addr, b ∉ (cxOf CX P w K mg base N qual scope f cd A outer s H E).ex := fun b z => absurd (show b ∈ ([] : List Addr) from z) (by simp)
  refine ⟨⟨e0.mod, S.kind, rfl, rfl, Nat.le_refl _, fun y z c h1 h2 => ?_, fun y hy => ?_, fun y c _ h => ?_, fun _ => hd, Around.frames_deeper e0.frames, .inr ⟨rfl, rfl⟩, fun b z => absurd z (noA b), e0.bs, e0.bsz, fun b _ _ => noA b, fun b z => absurd z (noA b), e0.funs, e0.frf⟩,
    rfl, e0.bare, Un.kept hk, ⟨_, x.toInCall.ns, fun i y v h1 h2 h3 => ?_⟩, fun y c h => ⟨_, x.cell y c h⟩, e0.hok.fresh (Nat.le_refl _), fun y c h => ?_, fun p hp => absurd (show p ∈ ([] : List (Addr × Obj)) from hp) (by simp), e0.hok.kept hk, ?_⟩
  · exact name_of_addr x.apart (PySem.mem_of_lookup h1) (PySem.mem_of_lookup h2)
  · have hy : scope.names.lookup y = some .cell ∨ scope.names.lookup y = some .free := hy
    rcases hy with hy | hy
    · exact cell_has hy
    · exact absurd rfl (S.nofree _ (PySem.mem_of_lookup hy))
  · exact Nat.le_of_lt (x.above y c (PySem.mem_of_lookup h))
  · have hi : i < vs.length := by
      unfold start at h2
      by_cases hi : i < vs.length
      · exact hi
      · rw [List.getElem?_append_right (by simpa using hi)] at h2
        rw [List.getElem?_replicate] at h2
        split at h2 <;> cases h2
    have ha : vs[i]? = some v := by
      unfold start at h2
      rw [List.getElem?_append_left (by simpa using hi), List.getElem?_map] at h2
      cases e : vs[i]? with
      | none => rw [e] at h2; cases h2
      | some a => rw [e] at h2; cases h2; rfl
    obtain ⟨u, hu, rv⟩ := r.get ha
    have hp : ps[i]? = some y := by
      rw [← S.pre, List.getElem?_take_of_lt (by omega)]; exact h1
    have ndP : ps.Nodup := by rw [← S.pre]; exact S.nd.sublist (List.take_sublist _ _)
    refine ⟨u, rv, ?_⟩
    rcases S.par y (List.mem_of_getElem? hp) with k | k
    · exact .inl ⟨k, bindL_get ndP hp hu k⟩
    · obtain ⟨c, e⟩ := cell_has (n := s.heap.objs.size + 1) k
      refine .inr ⟨.inl k, c, e, ?_⟩
      have q := x.cell y c e
      rw [bindC_get ndP hp hu (by show scope.names.lookup y ≠ _; rw [k]; decide)] at q
      exact q
  · exact e0.hok.fresh (Nat.le_of_lt (x.above y c (PySem.mem_of_lookup h)))
  · unfold start
    show _ = N.length
    rw [List.length_append, List.length_map, List.length_replicate]
    omega

theorem fn_of {CX : CXT} {P : Program} {w : World} {K : PySem.W.Frag} {mg : Str → Option Value} {base : Heap} {k : Nat} {f : Addr} {name qual : Str} {params : Arguments} {body : List Stmt} {scope : Scope} {dV kV doc pm cdv ct oc : Value} {an od : Option Addr}
    {osl : Array (Option Value)} {N ps : List Str} {sp : Sp} (lk : K.lookup f = some ⟨oc, od, .func (PySem.W.fnOf name qual params body scope dV kV doc pm an cdv ct), osl⟩) (hcd : PySem.W.codeIn K cdv qual = true) (S : FnScope N ps scope)
    (len : ∀ vs H Q E, sp vs H Q E → vs.length = ps.length)
    (hbody : ∀ (A : Around) (outer : List Env) (s : Shared) (H : Hp) (vs : List V) (Q : VK) (E : XK), Room k (A.deeper (envOfC qual scope s.heap.objs.size f cdv)) → sp vs H Q E →
      ∃ t, PSs (cxOf CX P w K mg base N qual scope f cdv A outer s H E) body t ∧ t { nx := fun _ H' => Q .non H', rt := Q } (start N vs) H) :
    FnOk P w K mg base CX (k + 1) f (PySem.W.fnOf name qual params body scope dV kV doc pm an cdv ct) ps sp := by
  refine ⟨len, fun A outer s H args us vs Q E hr e0 hb r hsp => ?_⟩
  have hl := len _ _ _ _ hsp
  have KX : K.In s.heap := e0.mod.kin.keeps fun b o e => (e0.bs b o e).1
  have lim : s.heap.NoLimit := e0.mod.nolimit.keeps fun b o e => (e0.bs b o e).1
  have hkind : ∀ y ∈ ps.zip us, scope.names.lookup y.1 = some .local ∨ (scope.names.lookup y.1 = some .cell ∧ ((cellsFrom (s.heap.objs.size + 1) scope.names []).lookup y.1).isSome = true) := fun ⟨n, v⟩ hy => by
    rcases S.par n (List.of_mem_zip hy).1 with q | q
    · exact .inl q
    · exact .inr ⟨q, PySem.W.cellsFrom_some _ _ _ (.inl q)⟩
  refine codeAny_call_function hr.depth (KX _ _ lk) rfl S.co S.gen rfl (PySem.W.codeRec_of KX hcd) (hb _ _ _ _ ?_)
  refine wpAny_newFunctionEnv_cells S.kind hkind fun env he s1 x => ?_
  subst he
  refine ⟨lim.keeps x.toInCall.keep, codeAny_func ?_⟩
  obtain ⟨t, ht, hq⟩ := hbody A outer s H vs Q E (hr.deeper _) hsp
  have I : Inv (cxOf CX P w K mg base N qual scope f cdv A outer s H E) [] (start N vs) H s1 := inv_start S hr.hd e0 hl r x
  refine wpAny_mono (ht [] s1 (start N vs) H _ I hq) (fun fl s' hs => ?_) fun e s' hs => hs
  have fin : ∀ {σ' : St} {H' : Hp} {v : V} {u : Value}, Inv (cxOf CX P w K mg base N qual scope f cdv A outer s H E) [] σ' H' s' → RelV v u → Q v H' → CE outer P w H s Q u s' :=
    fun {σ' H' v u} J rv q => ⟨v, H', J.os, J.bare, J.base, J.hok, rv, q⟩
  cases fl with
  | ret u =>
    obtain ⟨v, σ', H', J, rv, q⟩ := hs
    exact fin J rv q
  | next =>
    obtain ⟨σ', H', J, q⟩ := hs
    exact fin (v := V.non) (u := Value.none) J rfl q
  | brk =>
    obtain ⟨_, _, _, q⟩ := hs
    exact False.elim q
  | cont =>
    obtain ⟨_, _, _, q⟩ := hs
    exact False.elim q
end L2

namespace L2
open PySem PySem.Spec PyProof.Rows
section
variable {X : Cx} {x : Str} {p pos : Pos} {e : Expr} {es : List Expr} {t : TA} {id T : String} {r : List V → Hp → VK → Prop}

def tCB (r : List V → Hp → VK → Prop) (t : TA) : TE := fun σ H Q => t σ H fun vs H1 => r vs H1 Q
theorem pe_callB (hc : CallR X (.builtin id) r) (hg : Gl X x) (hm : X.mg x = none) (hv : bootBuiltins x = some (.builtin id)) (ha : PA X (e :: es) t) (hn : x ≠ "__name__" := by decide) (hdb : (x == ("__debug__" : Str)) = false := by decide)
    (he : starEach (e :: es) X.env = (false, eval e X.env) :: starEach es X.env := by rfl) (hpl : (backTo pos (starEach es X.env)).any (·.1) = false := by rfl) : PE X (.Call (.Name x p) (e :: es) [] pos) (tCB r t) := by
  intro pins s σ H Q I h
  refine wpAny_Call_Name_kw (ld_blt I hg hm hv ?_ hn hdb)
  exact PyProof.Rows.callWith_builtin1 (thn (ha pos pins s σ H _ I h) fun us s1 ⟨vs, H1, I1, r1, q1⟩ => hc pins s1 σ H1 vs us Q I1 r1 q1) he hpl
theorem pe_callTy (hc : CallR X (.type T) r) (hg : Gl X x) (hm : X.mg x = none) (hv : bootBuiltins x = some (.type T)) (ha : PA X (e :: es) t) (hn : x ≠ "__name__" := by decide) (hdb : (x == ("__debug__" : Str)) = false := by decide)
    (he : starEach (e :: es) X.env = (false, eval e X.env) :: starEach es X.env := by rfl) (hpl : (backTo pos (starEach es X.env)).any (·.1) = false := by rfl) : PE X (.Call (.Name x p) (e :: es) [] pos) (tCB r t) := by
  intro pins s σ H Q I h
  refine wpAny_Call_Name_kw (ld_blt I hg hm hv ?_ hn hdb)
  exact PyProof.Rows.callWith_type1 (thn (ha pos pins s σ H _ I h) fun us s1 ⟨vs, H1, I1, r1, q1⟩ => hc pins s1 σ H1 vs us Q I1 r1 q1) he hpl
end
end L2

namespace HT
open PySem PyProof.Rows

section
open PySem.SeqAt
open PySem.AutoSeq1 (wpAny_loadPart')
open PySem.MeetsSeq PySem.MeetsSeq2 PySem.MeetsSeq3

end

section
variable {prog : Program} {w : World} {A : Around} {E : Value → Shared → Prop} {s : Shared}

end
end HT

namespace L2
open PySem PySem.Spec PyProof.Rows

theorem intsAre_of {ns : List Int} : ∀ {us : List Value}, Vals (ns.map V.int) us → IntsAre us ns := by
  induction ns with
  | nil => intro us r; rw [List.map_nil] at r; cases r; exact .nil
  | cons n ns ih =>
    intro us r
    rw [List.map_cons] at r
    cases r with
    | cons r1 r2 =>
      obtain ⟨t, e⟩ := r1
      subst e
      exact .cons n t (ih r2)

section
variable {X : Cx} {e : Expr} {te : TE} {lo hi : Option Expr} {tl th : TO} {pos p2 : Pos}

end
end L2

namespace L2
open PySem PySem.Spec PyProof.Rows

def ixN (n : Nat) (i : Int) : Option Nat := if 0 ≤ i then (if i < n then some i.toNat else none) else if -(n : Int) ≤ i then some (i + n).toNat else none
def atI {α : Type} (xs : List α) (i : Int) : Option α := (ixN xs.length i).bind fun j => xs[j]?
theorem ixN_seq {n : Nat} {i : Int} {j : Nat} (h : ixN n i = some j) : seqIndex? i n = some j ∧ j < n ∧ -(n : Int) ≤ i ∧ i < n := by
  unfold ixN at h
  by_cases h0 : 0 ≤ i
  · rw [if_pos h0] at h
    by_cases h1 : i < n
    · rw [if_pos h1] at h
      have e : i.toNat = j := Option.some.inj h
      exact ⟨by rw [seqIndex_of h0 h1, e], by omega, by omega, h1⟩
    · rw [if_neg h1] at h; cases h
  · rw [if_neg h0] at h
    by_cases h1 : -(n : Int) ≤ i
    · rw [if_pos h1] at h
      have e : (i + n).toNat = j := Option.some.inj h
      exact ⟨by rw [seqIndex_neg (by omega) h1, e], by omega, h1, by omega⟩
    · rw [if_neg h1] at h; cases h
theorem atI_get {α : Type} {xs : List α} {i : Int} {v : α} (h : atI xs i = some v) : ∃ j, seqIndex? i xs.length = some j ∧ xs[j]? = some v ∧ j < xs.length ∧ -(xs.length : Int) ≤ i ∧ i < xs.length := by
  unfold atI at h
  cases e : ixN xs.length i with
  | none => rw [e] at h; cases h
  | some j =>
    rw [e] at h
    obtain ⟨h1, h2, h3, h4⟩ := ixN_seq e
    exact ⟨j, h1, h, h2, h3, h4⟩
theorem atI_nat {α : Type} {xs : List α} {j : Nat} {v : α} (h : xs[j]? = some v) : atI xs (j : Int) = some v := by
  have hj : j < xs.length := (List.getElem?_eq_some_iff.mp h).1
  have e : ixN xs.length (j : Int) = some j := by
    unfold ixN
    rw [if_pos (by omega), if_pos (by omega)]; simp
  unfold atI; rw [e]; exact h
def PlainIx (b : Expr) : Prop := ∀ o i, subscripted b false o i = operate [o, i] (getItem o i)
def IxR (X : Cx) (r : R2) : Prop :=
  ∀ (value slice : Expr) (pins : List (Addr × Obj)) (s : Shared) (σ : St) (H : Hp) (x y : V) (v u : Value) (Q : VK), Inv X pins σ H s → RelV x v → RelV y u → r x y H Q →
    subscripted slice false v u = operate [v, u] (getItem v u) → wpAny (model X.prog X.w) X.A (subscriptTail value slice v u) (EP X pins σ Q) X.xe s
def MtR (X : Cx) (id : String) (r : V → List V → Hp → VK → Prop) : Prop :=
  ∀ (pins : List (Addr × Obj)) (s : Shared) (σ : St) (H : Hp) (x : V) (xs : List V) (v : Value) (us : List Value) (Q : VK), Inv X pins σ H s → RelV x v → Vals xs us → r x xs H Q →
    wpAny (model X.prog X.w) X.A (call (.builtin id) (v :: us)) (EP X pins σ Q) X.xe s
section
variable {X : Cx} {a b : Expr} {ta tb : TE} {pos : Pos}
theorem pe_ix {r : R2} (hr : IxR X r) (ha : PE X a ta) (hb : PE X b tb) (hs : PlainIx b) : PE X (.Subscript a b pos) (tOp r ta tb) := by
  intro pins s σ H Q I h
  exact Subscript_ (binT ha hb I h fun v u s2 x y H2 I2 rx ry q => hr a b pins s2 σ H2 x y v u Q I2 rx ry q (hs _ _))

def rIxL (K : PySem.W.Frag) : R2 := fun x y H Q => ∃ p xs i v, x = .ref p ∧ y = .int i ∧ SqL K H p xs ∧ atI xs i = some v ∧ Q v H
def rIxT (K : PySem.W.Frag) : R2 := fun x y H Q => ∃ p xs i v, x = .ref p ∧ y = .int i ∧ SqT K H p xs ∧ atI xs i = some v ∧ Q v H
theorem ix_list : IxR X (rIxL X.K) := by
  intro value slice pins s σ H x y v u Q I rx ry h hs
  obtain ⟨p, xs, i, z, rfl, rfl, hq, he, q⟩ := h
  cases rx
  obtain ⟨t, rfl⟩ := ry
  obtain ⟨its, r, pl, hz⟩ := I.list hq
  obtain ⟨j, h1, h2, h3, h4, h5⟩ := atI_get he
  obtain ⟨w, ew, rw'⟩ := r.get h2
  have hl := r.length
  have hn := line63
  have fin : EP X pins σ Q w s := ⟨z, H, I, rw', q⟩
  by_cases h0 : 0 ≤ i
  · have hj : i.toNat = j := by
      rw [seqIndex_of h0 h5] at h1
      exact Option.some.inj h1
    exact item_listR pl.isList h0 (by omega) (by rw [hj]; simpa using ew) fin hs
  · have hj : (i + (its.toArray.size : Int)).toNat = j := by
      rw [seqIndex_neg (by omega) h4] at h1
      rw [List.size_toArray, ← hl]
      exact Option.some.inj h1
    exact subscriptTail_builtinR (x := w) pl.isList.typeIs slot_list_getitem.lookup
      (wpAny_getItem_list_neg (Q := fun r s' => r = w ∧ EP X pins σ Q r s') pl.isList (by omega) (by rw [List.size_toArray] <;> omega) (by omega) (by rw [hj]; simpa using ew) ⟨rfl, fin⟩) hs
theorem ix_tup : IxR X (rIxT X.K) := by
  intro value slice pins s σ H x y v u Q I rx ry h hs
  obtain ⟨p, xs, i, z, rfl, rfl, hq, he, q⟩ := h
  cases rx
  obtain ⟨t, rfl⟩ := ry
  obtain ⟨its, r, pl, hz⟩ := I.tuple hq
  obtain ⟨j, h1, h2, h3, h4, h5⟩ := atI_get he
  obtain ⟨w, ew, rw'⟩ := r.get h2
  have hl := r.length
  have hn := line63
  have fin : EP X pins σ Q w s := ⟨z, H, I, rw', q⟩
  exact subscriptTail_builtinR (x := w) pl.typeIs slot_tuple_getitem.lookup
    (getItem_tuple (j := j) (Q := fun r s' => r = w ∧ EP X pins σ Q r s') pl (by omega) (by omega) (by rw [List.size_toArray, ← hl]; exact h1) (by simpa using ew) ⟨rfl, fin⟩) hs
theorem mapSeq_set (its : List Value) (n j : Nat) (u : Value) : Obj.mapSeq (·.setIfInBounds j u) { cls := .type "list", data := .seq its.toArray n } = { cls := .type "list", data := .seq (its.set j u).toArray n } := by
  simp [Obj.mapSeq]
theorem Inv.lst {pins : List (Addr × Obj)} {σ : St} {H : Hp} {s : Shared} {p : Addr} {xs : List V} (I : Inv X pins σ H s) (h : H p = some (.lst xs)) :
    ∃ (its : List Value) (n : Nat), Vals xs its ∧ s.heap.get? p = some { cls := .type "list", data := .seq its.toArray n } ∧ xs.length ≤ sizeLine := by
  obtain ⟨z, its, n, r, e⟩ := I.hok p _ h
  exact ⟨its, n, r, e, z⟩
theorem Inv.lstUpd {pins : List (Addr × Obj)} {σ : St} {H : Hp} {s : Shared} {p : Addr} {xs ys : List V} {its its' : List Value} {n n' : Nat} {f : Obj → Obj} (I : Inv X pins σ H s) (h : H p = some (.lst xs))
    (ho : s.heap.get? p = some { cls := .type "list", data := .seq its.toArray n }) (hf : f { cls := .type "list", data := .seq its.toArray n } = { cls := .type "list", data := .seq its'.toArray n' }) (r : Vals ys its') (hz : ys.length ≤ sizeLine) (t : Nat) :
    Inv X pins σ (upd H p (.lst ys)) { s with heap := s.heap.update p f, toks := t } := by
  have e : (s.heap.update p f).get? p = some { cls := .type "list", data := .seq its'.toArray n' } := by
    rw [Heap.get?_update_self f ho (by rw [hf] <;> rfl), hf]
  refine I.write (x := p) (e := p) (by rw [h]; trivial) (.inl rfl) (fun b u hb q => (Heap.get?_update_other _ _ (Ne.symm hb)).trans q) ⟨_, e⟩ ?_
  exact ⟨hz, its', n', r, e⟩
def rSetL : V → V → V → Hp → (Hp → Prop) → Prop := fun o i v H Q => ∃ p xs k j, o = .ref p ∧ i = .int k ∧ H p = some (.lst xs) ∧ ixN xs.length k = some j ∧ Q (upd H p (.lst (xs.set j v)))
theorem set_list : PSet X rSetL := by
  intro pins s σ H o i v ov iv u Q I ro ri rv h
  obtain ⟨p, xs, k, j, rfl, rfl, hp, hj, q⟩ := h
  cases ro
  obtain ⟨t, rfl⟩ := ri
  obtain ⟨its, n, r, ho, hz⟩ := I.lst hp
  obtain ⟨h1, h2, h3, h4⟩ := ixN_seq hj
  have hl := r.length
  have hn := line63
  have I' : Inv X pins σ (upd H p (.lst (xs.set j v))) { s with heap := s.heap.update p (Obj.mapSeq (·.setIfInBounds j u)) } :=
    I.lstUpd hp ho (mapSeq_set its n j u) (r.set rv j) (by rw [List.length_set]; exact hz) s.toks
  by_cases h0 : 0 ≤ k
  · have hk : k.toNat = j := by
      rw [seqIndex_of h0 h4] at h1
      exact Option.some.inj h1
    exact PySem.W.ki_setAt ho h0 (by omega) (by rw [List.size_toArray, ← hl]; exact h4) (by rw [hk]; exact ⟨_, I', q⟩)
  · have hk : (k + (its.toArray.size : Int)).toNat = j := by
      rw [seqIndex_neg (by omega) h3] at h1
      rw [List.size_toArray, ← hl]
      exact Option.some.inj h1
    exact PySem.W.ki_setBack ho (by omega) (by rw [List.size_toArray, ← hl]; exact h3) (by omega) (by rw [hk]; exact ⟨_, I', q⟩)

def flatV : V → Bool
  | .non => true
  | .bl _ => true
  | .int _ => true
  | .str _ => true
  | _ => false
def eqV : V → V → Bool
  | .non, .non => true
  | .bl a, .bl b => a == b
  | .bl a, .int b => (if a then 1 else 0) == b
  | .int a, .bl b => a == (if b then 1 else 0)
  | .int a, .int b => a == b
  | .str a, .str b => a == b
  | _, _ => false
theorem eqAt_V {A : Around} {s : Shared} {y x : V} {u v : Value} (ry : RelV y u) (rx : RelV x v) (fy : flatV y = true) (fx : flatV x = true) : SeqAt.EqAt A s u v (eqV y x) := by
  cases y with
  | non =>
    cases ry
    cases x with
    | non => cases rx; exact SeqAt.EqAt.same _
    | bl b => cases rx; exact SeqAt.EqAt.none_bool b
    | int b => obtain ⟨t, rfl⟩ := rx; exact SeqAt.EqAt.none_int b t
    | str b => obtain ⟨t, rfl⟩ := rx; exact SeqAt.EqAt.none_str b t
    | _ => exact absurd (show false = true from fx) Bool.false_ne_true
  | bl a =>
    cases ry
    cases x with
    | non => cases rx; exact SeqAt.EqAt.bool_none a
    | bl b => cases rx; exact SeqAt.EqAt.bool_bool a b
    | int b => obtain ⟨t, rfl⟩ := rx; exact SeqAt.EqAt.bool_int a b t
    | str b => obtain ⟨t, rfl⟩ := rx; exact SeqAt.EqAt.bool_str a b t
    | _ => exact absurd (show false = true from fx) Bool.false_ne_true
  | int a =>
    obtain ⟨t', rfl⟩ := ry
    cases x with
    | non => cases rx; exact SeqAt.EqAt.int_none a t'
    | bl b => cases rx; exact SeqAt.EqAt.int_bool a t' b
    | int b => obtain ⟨t, rfl⟩ := rx; exact SeqAt.EqAt.int_int a t' b t
    | str b => obtain ⟨t, rfl⟩ := rx; exact SeqAt.EqAt.int_str a t' b t
    | _ => exact absurd (show false = true from fx) Bool.false_ne_true
  | str a =>
    obtain ⟨t', rfl⟩ := ry
    cases x with
    | non => cases rx; exact SeqAt.EqAt.str_none a t'
    | bl b => cases rx; exact SeqAt.EqAt.str_bool a t' b
    | int b => obtain ⟨t, rfl⟩ := rx; exact SeqAt.EqAt.str_int a t' b t
    | str b => obtain ⟨t, rfl⟩ := rx; exact SeqAt.EqAt.str_str a t' b t
    | _ => exact absurd (show false = true from fx) Bool.false_ne_true
  | _ => exact absurd (show false = true from fy) Bool.false_ne_true
def eqU (x : V) (u : Value) : Bool := match u with
  | .none => eqV .non x
  | .bool b => eqV (.bl b) x
  | .int i _ => eqV (.int i) x
  | .str z _ => eqV (.str z) x
  | _ => false
theorem eqU_of {x y : V} {u : Value} (r : RelV y u) (f : flatV y = true) : eqU x u = eqV y x := by
  cases y with
  | non => cases r; rfl
  | bl b => cases r; rfl
  | int i => obtain ⟨t, rfl⟩ := r; rfl
  | str z => obtain ⟨t, rfl⟩ := r; rfl
  | _ => exact absurd (show false = true from f) Bool.false_ne_true
theorem any_eqU {x : V} : ∀ {xs : List V} {us : List Value}, Vals xs us → xs.all flatV = true → us.any (eqU x) = xs.any fun y => eqV y x
  | _, _, .nil, _ => rfl
  | y :: xs, u :: us, .cons r t, f => by
    rw [List.all_cons, Bool.and_eq_true] at f
    rw [List.any_cons, List.any_cons, eqU_of r f.1, any_eqU t f.2]
theorem mem_eqAt {A : Around} {s : Shared} {x : V} {v : Value} (rx : RelV x v) (fx : flatV x = true) : ∀ {xs : List V} {us : List Value}, Vals xs us → xs.all flatV = true → ∀ u ∈ us, SeqAt.EqAt A s u v (eqU x u)
  | _, _, .nil, _ => fun u hu => by cases hu
  | y :: xs, u :: us, .cons r t, f => fun u' hu => by
    rw [List.all_cons, Bool.and_eq_true] at f
    rcases List.mem_cons.mp hu with rfl | hu
    · rw [eqU_of r f.1]; exact eqAt_V r rx f.1 fx
    · exact mem_eqAt rx fx t f.2 u' hu
def inV (x : V) (xs : List V) : Bool := xs.any fun y => eqV y x
def rIn (K : PySem.W.Frag) (neg : Bool) : R2 := fun x y H Q => ∃ p xs, y = .ref p ∧ (SqL K H p xs ∨ SqT K H p xs) ∧ flatV x = true ∧ xs.all flatV = true ∧ Q (.bl (if neg then !inV x xs else inV x xs)) H
theorem op_notIn_seq : OpR X (compareOp .NotIn) (rIn X.K true) := by
  intro pins s σ H x y v u Q I rx ry h
  obtain ⟨p, xs, rfl, hq, fx, fs, q⟩ := h
  cases ry
  rcases hq with hq | hq
  · obtain ⟨its, r, pl, hz⟩ := I.list hq
    refine SeqAt.notIn_listAt (eqU x) pl.isList (fun w hw => mem_eqAt rx fx r fs w (by simpa using hw)) ⟨.bl _, H, I, rfl, ?_⟩
    rw [show its.toArray.any (eqU x) = its.any (eqU x) by simp, any_eqU r fs]
    exact q
  · obtain ⟨its, r, pl, hz⟩ := I.tuple hq
    refine SeqAt.notIn_tupleAt (eqU x) pl (fun w hw => mem_eqAt rx fx r fs w (by simpa using hw)) ⟨.bl _, H, I, rfl, ?_⟩
    rw [show its.toArray.any (eqU x) = its.any (eqU x) by simp, any_eqU r fs]
    exact q
theorem call_len_seq : CallR X (.builtin "len") (fun xs H Q => ∃ p ys, xs = [.ref p] ∧ (SqL X.K H p ys ∨ SqT X.K H p ys) ∧ Q (.int ys.length) H) := by
  intro pins s σ H xs us Q I r h
  obtain ⟨p, ys, rfl, hq, q⟩ := h
  obtain ⟨u, rfl, rx⟩ := vals1 r
  cases rx
  have hn := line63
  rcases hq with hq | hq
  · obtain ⟨its, r', pl, hz⟩ := I.list hq
    have hlen := r'.length
    exact Calls.call_len_list pl.isList (by simp only [List.size_toArray] <;> omega) ⟨.int ys.length, H, I.tok _, ⟨s.toks + 1, by rw [List.size_toArray, hlen]⟩, q⟩
  · obtain ⟨its, r', pl, hz⟩ := I.tuple hq
    have hlen := r'.length
    exact len_tuple pl (by simp only [List.size_toArray] <;> omega) ⟨.int ys.length, H, I.tok _, ⟨s.toks + 1, by rw [List.size_toArray, hlen]⟩, q⟩
theorem call_list_of : CallR X (.type "list") (fun xs H Q => ∃ p ys, xs = [.ref p] ∧ (SqL X.K H p ys ∨ SqT X.K H p ys) ∧ ∀ l, H l = none → Q (.ref l) (upd H l (.lst ys))) := by
  intro pins s σ H xs us Q I r h
  obtain ⟨p, ys, rfl, hq, q⟩ := h
  obtain ⟨u, rfl, rx⟩ := vals1 r
  cases rx
  have fin : ∀ (its : List Value), Vals ys its → ys.length ≤ sizeLine → ∀ (h' : Heap) (c' : Nat), (∀ b o', s.heap.get? b = some o' → h'.get? b = some o') →
      h'.get? s.heap.objs.size = some { cls := .type "list", dict := none, data := .seq its.toArray c', slots := #[] } → EP X pins σ Q (.ref s.heap.objs.size) { s with heap := h' } := fun its r' hz h' c' kp e =>
    ⟨.ref s.heap.objs.size, _, I.laid (t' := s.toks) kp (Nat.le_refl _) (show ObjOk X.prog X.w _ h' _ (.lst ys) from ⟨hz, its, c', r', e⟩), rfl, q _ (I.hok.fresh (Nat.le_refl _))⟩
  rcases hq with hq | hq
  · obtain ⟨its, r', pl, hz⟩ := I.list hq
    have hlen := r'.length
    obtain ⟨o, ho, hc, n, hd⟩ := pl.isList
    exact call_list_seq p (.inl rfl) ho hc hd (fun h' c' kp e => fin its r' hz h' c' kp e) (by simp only [List.size_toArray] <;> omega)
  · obtain ⟨its, r', pl, hz⟩ := I.tuple hq
    have hlen := r'.length
    obtain ⟨o, ho, hc, n, hd⟩ := pl
    exact call_list_seq p (.inr rfl) ho hc hd (fun h' c' kp e => fin its r' hz h' c' kp e) (by simp only [List.size_toArray] <;> omega)
def tyV (K : PySem.W.Frag) (T : String) (x : V) (H : Hp) : Prop := match x with
  | .str _ => T = "str"
  | .int _ => T = "int"
  | .ref p => (T = "list" ∧ ∃ xs, SqL K H p xs) ∨ (T = "tuple" ∧ ∃ o, K.lookup p = some o ∧ o.cls = .type "tuple" ∧ o.dict = none) ∨
      (T = "dict" ∧ ((∃ kvs, H p = some (.dK kvs)) ∨ ∃ kvs, H p = some (.dT kvs))) ∨ (T = "set" ∧ ∃ S n, H p = some (.set S n))
  | _ => False
theorem tyV_is {pins : List (Addr × Obj)} {σ : St} {H : Hp} {s : Shared} {T : String} {x : V} {v : Value} (I : Inv X pins σ H s) (r : RelV x v) (ty : tyV X.K T x H) :
    s.TypeIs v T ∧ ∀ a, v = .ref a → ∃ ob, s.heap.get? a = some ob ∧ ob.dict = none := by
  cases x with
  | str z =>
    obtain ⟨t, rfl⟩ := r
    cases (show T = "str" from ty)
    exact ⟨typeIs_str s z t, fun _ e => nomatch e⟩
  | int i =>
    obtain ⟨t, rfl⟩ := r
    cases (show T = "int" from ty)
    exact ⟨typeIs_int s i t, fun _ e => nomatch e⟩
  | ref p =>
    cases r
    rcases ty with ⟨rfl, xs, hq⟩ | ⟨rfl, o, hk, hc, hd⟩ | ⟨rfl, hk⟩ | ⟨rfl, S, n, hk⟩
    · obtain ⟨its, _, pl, _⟩ := I.list hq
      refine ⟨pl.isList.typeIs, fun a e => ?_⟩
      cases e
      obtain ⟨o, n, e, c, hd, _⟩ := pl
      exact ⟨o, e, hd⟩
    · refine ⟨⟨o, I.kIn p o hk, hc⟩, fun a e => ?_⟩
      cases e
      exact ⟨o, I.kIn _ o hk, hd⟩
    · have z : ∃ o, s.heap.get? p = some o ∧ o.ExactDict := by
        rcases hk with ⟨kvs, hk⟩ | ⟨kvs, hk⟩
        · obtain ⟨_, _, _, _, o, _, _, e, ex, _⟩ := I.hok p _ hk
          exact ⟨o, e, ex⟩
        · obtain ⟨_, _, _, _, o, _, _, e, ex, _⟩ := I.hok p _ hk
          exact ⟨o, e, ex⟩
      obtain ⟨o, e, ex⟩ := z
      refine ⟨⟨o, e, ex.1⟩, fun a e2 => ?_⟩
      cases e2
      exact ⟨o, e, ex.2.1⟩
    · obtain ⟨o, _, _, _, e, ex, _⟩ := I.hok p _ hk
      refine ⟨⟨o, e, ex.1⟩, fun a e2 => ?_⟩
      cases e2
      exact ⟨o, e, ex.2.1⟩
  | _ => exact False.elim ty
def tBM (K : PySem.W.Frag) (T : String) (r : V → List V → Hp → VK → Prop) (to : TE) (t : TA) : TE := fun σ H Q => to σ H fun x H1 => tyV K T x H1 ∧ t σ H1 fun xs H2 => r x xs H2 Q
variable {o e : Expr} {es : List Expr} {to : TE} {t : TA} {name : Str} {apos cpos : Pos} {T id : String} {r : V → List V → Hp → VK → Prop}
theorem pe_bm (pa : PlainAttrs T) (slot : Slot T name id) (hty : typeOf (.builtin id) = pure (.type "method_descriptor")) (hm : MtR X id r) (ho : PE X o to) (ha : PA X (e :: es) t)
    (hbase : attributeBase o name X.env (eval o X.env) = eval o X.env := by rfl)
    (hfew : ((backTo cpos (starEach (e :: es) X.env)).all (fun x => !x.1) && (backToKw cpos (keywordEach [] X.env)).all (fun x => x.1.isSome)
      && decide ((e :: es).length + ([] : List Keyword).length + (if ([] : List Keyword).isEmpty then 0 else 1) < 30)) = true := by rfl)
    (hline : (apos.endLine == cpos.line) = true := by rfl) (hs : starEach (e :: es) X.env = (false, eval e X.env) :: starEach es X.env := by rfl) (hplain : (backTo cpos (starEach es X.env)).any (·.1) = false := by rfl) :
    PE X (.Call (.Attribute o name apos) (e :: es) [] cpos) (tBM X.K T r to t) := by
  intro pins s σ H Q I h
  refine wpAny_Call_method_late hbase hfew hline rfl (thn (ho pins s σ H _ I h) fun v s1 ⟨x, H1, I1, r1, ty, q1⟩ => ?_)
  obtain ⟨h1, h2⟩ := tyV_is I1 r1 ty
  refine ⟨T, id, pa, slot, hty, h1, h2, ?_⟩
  have hA := ha cpos pins s1 σ H1 _ I1 q1
  rw [hs] at hA ⊢
  refine Calls.callWith_builtin (by show (false || (backTo cpos (starEach es X.env)).any (·.1)) = false; rw [hplain] <;> rfl) (Calls.evalArgs_plain ?_)
  exact thn hA fun us s2 ⟨vs, H2, I2, r2, q2⟩ => hm pins s2 σ H2 x vs v us Q I2 r1 r2 q2
end
end L2

namespace L2
open PySem PySem.Spec PyProof.Rows

def MtM (X : Cx) (id : String) (r : V → List V → Hp → VK → Prop) : Prop :=
  ∀ (pins : List (Addr × Obj)) (s : Shared) (σ : St) (H : Hp) (x : V) (xs : List V) (v : Value) (us : List Value) (Q : VK), Inv X pins σ H s → RelV x v → Vals xs us → r x xs H Q →
    wpAny (model X.prog X.w) X.A (call (.builtin id) (v :: us)) (EP X pins σ Q) X.xe s

theorem Vals.one : ∀ {x : V} {us : List Value}, Vals [x] us → ∃ u, us = [u] ∧ RelV x u
  | _, _, .cons r .nil => ⟨_, rfl, r⟩
theorem Vals.two : ∀ {x y : V} {us : List Value}, Vals [x, y] us → ∃ u v, us = [u, v] ∧ RelV x u ∧ RelV y v
  | _, _, _, .cons r (.cons q .nil) => ⟨_, _, rfl, r, q⟩
theorem Vals.eraseIdx : ∀ {xs : List V} {us : List Value} (i : Nat), Vals xs us → Vals (xs.eraseIdx i) (us.eraseIdx i)
  | _, _, _, .nil => .nil
  | _, _, 0, .cons _ t => t
  | _, _, i + 1, .cons r t => .cons r (Vals.eraseIdx i t)
theorem len_erase {α : Type} : ∀ (l : List α) (i : Nat), (l.eraseIdx i).length ≤ l.length
  | [], _ => Nat.le_refl _
  | _ :: _, 0 => Nat.le_succ _
  | _ :: r, i + 1 => Nat.succ_le_succ (len_erase r i)
section
variable {X : Cx} {pins : List (Addr × Obj)} {σ : St} {H : Hp} {s : Shared} {l b : Addr} {xs ys zs : List V}

theorem Inv.lset {its its' : List Value} {n : Nat} {f : Array Value → Array Value} {t' : Nat} (I : Inv X pins σ H s) (hH : H l = some (.lst xs))
    (e : s.heap.get? l = some { cls := .type "list", data := .seq its.toArray n }) (hf : f its.toArray = its'.toArray) (hv : Vals ys its') (hz : ys.length ≤ sizeLine) :
    Inv X pins σ (upd H l (.lst ys)) { s with heap := s.heap.update l (Obj.mapSeq f), toks := t' } := by
  have q := PySem.IsL.update e f
  rw [hf] at q
  refine I.write (x := l) (e := l) (by rw [hH]; exact trivial) (.inl rfl) (fun b' u hb hu => (Heap.get?_update_other s.heap (Obj.mapSeq f) (Ne.symm hb)).trans hu) ⟨_, q⟩ ?_
  exact ⟨hz, its', _, hv, q⟩
theorem Inv.lnew {its : List Value} {t' : Nat} (I : Inv X pins σ H s) (hv : Vals ys its) (hz : ys.length ≤ sizeLine) :
    Inv X pins σ (upd H s.heap.objs.size (.lst ys)) { s with heap := s.heap.push { cls := .type "list", data := .seq its.toArray }, toks := t' } :=
  I.laid (fun _ _ q => Heap.get?_push_of_some _ q) (Nat.le_refl _) ⟨hz, its, 0, hv, Heap.get?_push_size _ rfl⟩
theorem Inv.fresh (I : Inv X pins σ H s) : H s.heap.objs.size = none := I.hok.fresh (Nat.le_refl _)
theorem Inv.lstM (I : Inv X pins σ H s) (hH : H l = some (.lst xs)) : xs.length ≤ sizeLine ∧ ∃ (its : List Value) (n : Nat), Vals xs its ∧ xs.length = its.length ∧ s.heap.get? l = some { cls := .type "list", data := .seq its.toArray n } := by
  obtain ⟨z, its, n, r, e⟩ := I.hok l _ hH
  exact ⟨z, its, n, r, r.length, e⟩

theorem notLongL {n : Nat} (h : n ≤ sizeLine) : Builtin.List.listTooLong n = false := by
  unfold Builtin.List.listTooLong
  exact decide_eq_false (by omega)
end

section
variable {X : Cx}

def rAppend : V → List V → Hp → VK → Prop := fun x vs H Q => ∃ l xs y, x = .ref l ∧ vs = [y] ∧ H l = some (.lst xs) ∧ xs.length < sizeLine ∧ Q .non (upd H l (.lst (xs ++ [y])))
theorem mt_append : MtM X "list.append" rAppend := by
  intro pins s σ H x vs v us Q I rx rv h
  obtain ⟨l, xs, y, rfl, rfl, hH, hz, q⟩ := h
  cases rx
  obtain ⟨u, rfl, ru⟩ := rv.one
  obtain ⟨z, its, n, r, hl, e⟩ := I.lstM hH
  refine call_meets F.slot_list_append ⟨_, e, rfl⟩ F.entry_list_append (F.args_list_append_2 _ _) (PySem.list_append l its.toArray n u (by rw [List.size_toArray]; omega)) ⟨e, ?_⟩
  refine ⟨.non, _, I.lset (its' := its ++ [u]) hH e (by simp) (r.append (.cons ru .nil)) ?_, rfl, q⟩
  rw [List.length_append, List.length_singleton]
  omega

def rExtend : V → List V → Hp → VK → Prop := fun x vs H Q => ∃ l b xs zs, x = .ref l ∧ vs = [.ref b] ∧ H l = some (.lst xs) ∧ H b = some (.lst zs) ∧ xs.length + zs.length ≤ sizeLine ∧ Q .non (upd H l (.lst (xs ++ zs)))
theorem mt_extend : MtM X "list.extend" rExtend := by
  intro pins s σ H x vs v us Q I rx rv h
  obtain ⟨l, b, xs, zs, rfl, rfl, hH, hB, hz, q⟩ := h
  cases rx
  obtain ⟨u, rfl, ru⟩ := rv.one
  cases ru
  obtain ⟨z, its, n, r, hl, e⟩ := I.lstM hH
  obtain ⟨z2, its2, n2, r2, hl2, e2⟩ := I.lstM hB
  have hsz : its.toArray.size + its2.toArray.size ≤ sizeLine := by rw [List.size_toArray, List.size_toArray]; omega
  have hlong : ¬ (!its.toArray.isEmpty && Builtin.List.listTooLong (its.toArray.size + its2.toArray.size)) = true := by
    rw [notLongL hsz, Bool.and_false]
    exact Bool.false_ne_true
  refine call_meets F.slot_list_extend ⟨_, e, rfl⟩ F.entry_list_extend (F.args_list_extend_2 _ _)
    (AutoSeq1.list_extend_list_list_0 l its.toArray n b its2.toArray n2 hlong (by rw [List.size_toArray]; omega) (by omega)) ⟨e, e2, ?_⟩
  refine ⟨.non, _, I.lset (its' := its ++ its2) hH e (by simp) (r.append r2) ?_, rfl, q⟩
  rw [List.length_append]
  omega

def rPopAt : V → List V → Hp → VK → Prop := fun x vs H Q => ∃ l xs i k y, x = .ref l ∧ vs = [.int i] ∧ H l = some (.lst xs) ∧ -(2 ^ 63) ≤ i ∧ i < 2 ^ 63 ∧ seqIndex? i xs.length = some k ∧ xs[k]? = some y ∧ Q y (upd H l (.lst (xs.eraseIdx k)))
theorem mt_popAt : MtM X "list.pop" rPopAt := by
  intro pins s σ H x vs v us Q I rx rv h
  obtain ⟨l, xs, i, k, y, rfl, rfl, hH, h1, h2, hk, hy, q⟩ := h
  cases rx
  obtain ⟨u, rfl, ru⟩ := rv.one
  obtain ⟨t, rfl⟩ := ru
  obtain ⟨z, its, n, r, hl, e⟩ := I.lstM hH
  obtain ⟨w, hw, rw'⟩ := r.get hy
  refine call_meets F.slot_list_pop ⟨_, e, rfl⟩ F.entry_list_pop (F.args_list_pop_2 _ _)
    (MeetsSeq.list_pop_at l its.toArray n i t k w (fitsIndex_both h1 h2) (by rw [List.size_toArray, ← hl]; exact hk) (by rw [← Array.getElem?_toList]; exact hw) (by rw [List.size_toArray]; omega)) ⟨e, ?_⟩
  refine ⟨y, _, I.lset (its' := its.eraseIdx k) hH e ?_ (r.eraseIdx k) ?_, rw', q⟩
  · show its.toArray.eraseIdxIfInBounds k = (its.eraseIdx k).toArray
    rw [List.eraseIdxIfInBounds_toArray]
  · have := len_erase xs k
    omega

def rCat : R2 := fun x y H Q => ∃ l b xs zs, x = .ref l ∧ y = .ref b ∧ H l = some (.lst xs) ∧ H b = some (.lst zs) ∧ xs.length + zs.length ≤ sizeLine ∧ ∀ p, H p = none → Q (.ref p) (upd H p (.lst (xs ++ zs)))
theorem op_cat : OpR X (binaryOp .Add) rCat := by
  intro pins s σ H x y v u Q I rx ry h
  obtain ⟨l, b, xs, zs, rfl, rfl, hH, hB, hz, q⟩ := h
  cases rx
  cases ry
  obtain ⟨z, its, n, r, hl, e⟩ := I.lstM hH
  obtain ⟨z2, its2, n2, r2, hl2, e2⟩ := I.lstM hB
  refine PySem.P.add_list e e2 ?_ (by rw [List.size_toArray, List.size_toArray]; omega)
  have ea : its.toArray ++ its2.toArray = (its ++ its2).toArray := by simp
  rw [ea]
  exact ⟨.ref _, _, I.lnew (t' := s.toks) (r.append r2) (by rw [List.length_append]; omega), rfl, q _ I.fresh⟩
end

section
variable {prog : Program} {w : World} {A : Around} {E : Value → Shared → Prop} {s : Shared}
end

section
variable {X : Cx}
end
end L2

namespace Att
open PySem PySem.W PySem.Calls PyProof.Rows

theorem ints_of_wellAll {P : Params} {h : Heap} : ∀ (ns : List Int) (vs : List Value), WellAll P h vs (ns.map WData.int) → IntsAre vs ns := by
  intro ns
  induction ns with
  | nil =>
    intro vs w
    rw [List.map_nil] at w
    cases w
    exact .nil
  | cons n ns ih =>
    intro vs w
    rw [List.map_cons] at w
    cases w with
    | cons a b =>
      cases a
      exact .cons _ _ (ih _ b)

theorem script_of {l : OpenLaw} {n : Nat} (hn : l.most = some n) {P : Params} {h : Heap} {args : List WData} {vals : List Value}
    (hpre : l.row.toRowW.claim.pre args = true) (hwl : WellAll P h vals args) :
    ∃ a vs ns, vals = [Value.ref a] ∧ args = [WData.list (ns.map WData.int)] ∧ h.get? a = some { cls := .type "list", data := .seq vs.toArray } ∧ IntsAre vs ns ∧ ns.length ≤ n := by
  have hsh : WShape.hasAll [] args [.list .int] = true := (pre_splitW hpre).1
  have hc : l.pre.holds [] { args := args } = true := (pre_splitW hpre).2
  obtain ⟨d, r, rfl, h1, h2⟩ := hasAllW_cons hsh
  obtain rfl := hasAllW_nil h2
  obtain ⟨xs, rfl, h3⟩ := hasW_list h1
  obtain ⟨ns, rfl⟩ := items_int h3
  have hlen : ns.length ≤ n := by
    unfold OpenLaw.pre at hc
    have h4 : (WTm.not (.lt (.lit (.int (n : Int))) (.len (.arg 0)))).holds [] { args := [.list (ns.map .int)] } = true := by
      have h4 := (holds_andW hc).1
      rw [hn] at h4
      exact h4
    have h5 := condW_of h4 (w_not (w_lt w_lit (w_len_list (w_arg rfl))))
    rw [List.length_map] at h5
    refine Nat.le_of_not_lt fun q => ?_
    have q' : (n : Int) < ((ns.length : Nat) : Int) := by omega
    first
      | (rw [decide_eq_true q'] at h5; exact absurd h5 (by decide))
      | (simp at h5; omega)
  cases hwl with
  | cons w1 w2 =>
    cases w2
    cases w1 with
    | list ho hall => exact ⟨_, _, ns, rfl, rfl, ho, ints_of_wellAll ns _ hall, hlen⟩

theorem post_true (l : OpenLaw) (args : List WData) : l.row.toRowW.claim.post args (.bool true) args = true :=
  postW_of (r := l.row.toRowW) (X := (true == true))
    (show WShape.has [] (.bool true) .bool = true by first | rfl | decide | simp [WShape.has, WShape.arms, WShape.armsAll])
    (show (WTm.eq .res (.lit (.bool true))).value [] { args := args, res := some (.bool true), after := args } = some (.bool (true == true)) from w_eq_bool (w_res rfl) w_lit) rfl

theorem attach_call {l : OpenLaw} {n : Nat} {q : Program} {loose : List Str} {XP : (Str → Option Value) → Heap → Prop} {YP : World → Heap → Prop} {d : DefRec}
    (hn : l.most = some n) (hdf : d.params.defaults = [])
    (call : ∀ (w : World) (s₀ s₁ : Shared) (mg mb : Str → Option Value) (fa : Addr) (o : Obj) (pm cd doc : Value) (a : Addr) (vs : List Value) (ns : List Int),
      Ground q loose [] XP w s₀ mg mb s₁.heap → YP w s₁.heap →
      s₁.heap.get? fa = some o → o.data = .func (docDef d.name d.params d.body d.scope pm cd doc) → s₁.heap.CodeRec cd d.name → mg d.name = some (.ref fa) →
      s₁.heap.get? a = some { cls := .type "list", data := .seq vs.toArray } → IntsAre vs ns → ns.length ≤ n → s₁.gens = #[] →
      codeAny (model l.prog w) callerA (.call (.ref fa) ⟨[.ref a], []⟩) (fun r s' => r = .ok (.ret (.bool true)) ∧ OldK s₁.heap s'.heap ∧ s'.os = s₁.os ∧ AllBare s'.gens) s₁) :
    WalkO q loose XP YP l.row.toRowW d [] (fun f vs => PySem.call f vs) := by
  intro w s₀ s₁ mg mb G Y fa o pm cd doc dV kV ho hd hcd hD hmg hg args vals as hpre hlay hrd hwl hlo
  obtain rfl : dV = .none := Dflts.none hD hdf
  obtain rfl : kV = .none := Dflts.noKw hD
  obtain ⟨a, vs, ns, rfl, rfl, hobj, hints, hlen⟩ := script_of hn hpre hwl
  refine enter_call (codeAny_mono (call w s₀ s₁ mg mb fa o pm cd doc a vs ns G Y ho (fd_plain hd) hcd hmg hobj hints hlen hg) fun r s' hq => ?_)
  obtain ⟨rfl, h2, h3, h4⟩ := hq
  exact ⟨.inl ⟨.bool true, .bool true, [], rfl, fun _ => rfl, .bool true, post_true l _, fun _ => ⟨List.Pairwise.nil, fun _ hm => (nomatch hm)⟩⟩, h2, h3, h4⟩

section
variable {prog : Program} {w : World} {A : Around} {E : Value → Shared → Prop} {s : Shared} {K : Frag}

end
end Att

namespace L2
open PySem PySem.Spec PyProof.Rows

theorem vals_ints : ∀ {vs : List Value} {ns : List Int}, IntsAre vs ns → Vals (ns.map V.int) vs
  | _, _, .nil => .nil
  | _, _, .cons n t h => .cons ⟨t, rfl⟩ (vals_ints h)

def Only (H : Hp) : Prop := ∀ b, H b = none ∨ ∃ o xs, H b = some (.frz o (.lst xs))

theorem law_call {P : Program} {w : World} {K : PySem.W.Frag} {mg mb : Str → Option Value} {CX : CXT} {k : Nat} {fa a : Addr} {fd : FuncData} {x : Str} {sp : Sp} {s₁ : Shared} {vs : List Value} {ns : List Int}
    (KX : K.In s₁.heap) (hns : s₁.heap.Ns mainGlobals mg) (hb : s₁.heap.Ns builtinsNs mb) (hbb : ∀ x : Str, x ≠ "__name__" → mb x = bootBuiltins x) (hlim : s₁.heap.NoLimit) (hg : s₁.gens = #[])
    (ha : s₁.heap.get? a = some { cls := .type "list", data := .seq vs.toArray }) (hi : IntsAre vs ns) (hl : ns.length ≤ sizeLine) (hr : Room k callerA)
    (F : ∀ base : Heap, K.In base → base.Ns mainGlobals mg → FnOk P w K mg base CX k fa fd [x] sp) (hbind : ∀ (s : Shared) (u : Value), BindsTo s fd ⟨[u], []⟩ [(x, u)])
    (hsp : ∀ H : Hp, Only H → SqL K H a (ns.map V.int) → sp [.ref a] H (fun v _ => v = .bl true) fun _ _ _ => False)
    (hCX : ∀ H e s', CX [] H s₁ (fun _ _ _ => False) e s' → False) :
    codeAny (model P w) callerA (.call (.ref fa) ⟨[.ref a], []⟩) (fun r s' => r = .ok (.ret (.bool true)) ∧ OldK s₁.heap s'.heap ∧ s'.os = s₁.os ∧ AllBare s'.gens) s₁ := by
  have rv := vals_ints hi
  have lenV := hi.length
  -- from an abstract heap in which nothing but the script may be tracked
  have core : ∀ H : Hp, Only H → SqL K H a (ns.map V.int) → HOk P w H s₁.heap → (∀ b, H b ≠ none → b = a) → (H a ≠ none → K.lookup a = none) →
      codeAny (model P w) callerA (.call (.ref fa) ⟨[.ref a], []⟩) (fun r s' => r = .ok (.ret (.bool true)) ∧ OldK s₁.heap s'.heap ∧ s'.os = s₁.os ∧ AllBare s'.gens) s₁ := by
    intro H hO hS hok hA hK
    have base_of : ∀ {b : Addr} {o : Obj}, s₁.heap.get? b = some o → H b = none → (hidT s₁.heap H).get? b = some o := fun e n => hidT_get e n
    have noA : ∀ {b : Addr} {o : Obj} {es : Array DictEntry} {ep : Nat}, s₁.heap.get? b = some o → o.data = .dict es ep → H b = none := fun {b o es ep} e d => by
      cases q : H b with
      | none => rfl
      | some u =>
        have e' : b = a := hA b (by rw [q]; simp)
        subst e'
        rw [ha] at e; cases e
        have d' : Data.seq vs.toArray _ = Data.dict es ep := d
        cases d'
    have nsK : ∀ {b : Addr} {m : Str → Option Value}, s₁.heap.Ns b m → (hidT s₁.heap H).Ns b m := fun {b m} ⟨o, es, ep, e, d, r⟩ => ⟨o, es, ep, base_of e (noA e d), d, r⟩
    have hKb : K.In (hidT s₁.heap H) := fun b o e => base_of (KX b o e) (by
      cases q : H b with
      | none => rfl
      | some u =>
        have e' : b = a := hA b (by rw [q]; simp)
        subst e'
        rw [hK (by rw [q]; simp)] at e; cases e)
    have hM : Mod K mg (hidT s₁.heap H) := ⟨hKb, nsK hns, ⟨mb, nsK hb, hbb⟩, let ⟨mc, h1, h2⟩ := hlim; ⟨mc, nsK h1, h2⟩⟩
    have e0 : Env0 P w K mg (hidT s₁.heap H) callerA [] s₁ H := ⟨rfl, hM, fun b o e => of_hidT e, Nat.le_of_eq (hidT_size _ _), trivial, fun b hb => absurd (show b ∈ ([] : List Addr) from hb) (by simp), hok, .of_eq hg⟩
    refine codeAny_mono ((F _ hKb (nsK hns)).run callerA [] s₁ H ⟨[.ref a], []⟩ [.ref a] [.ref a] _ _ hr e0 (hbind s₁ (.ref a)) (.cons rfl .nil) (hsp H hO hS)) fun r s' h => ?_
    cases r with
    | error e => exact (hCX H e s' h).elim
    | ok fl =>
      cases fl with
      | next => exact False.elim h
      | brk => exact False.elim h
      | cont => exact False.elim h
      | ret u =>
        obtain ⟨v, H', os, bare, un, hok', r', q⟩ := h
        have q' : v = .bl true := q
        subst q'
        obtain rfl : u = Value.bool true := r'
        refine ⟨rfl, OldK.of_keep fun b o e => ?_, os, bare⟩
        cases q : H b with
        | none => exact un.keep b o e q (by intro z; exact absurd (show b ∈ ([] : List Addr) from z) (by simp)) (by simp)
        | some u =>
          rcases hO b with z | ⟨ob, xs, z⟩
          · rw [q] at z; cases z
          · have z2 := un.frzs b ob _ z
            obtain ⟨e1, _⟩ := hok b _ z
            obtain ⟨e2, _⟩ := hok' b _ z2
            rw [e] at e1; cases e1
            exact e2
  cases hk : K.lookup a with
  | some o =>
    -- the script is one of the module's own objects
    have e := KX a o hk
    rw [ha] at e
    cases e
    refine core (fun _ => none) (fun _ => .inl rfl) (.inr ⟨_, vs.toArray, _, hk, rfl, rfl, rfl, by rw [List.size_toArray, lenV]; exact hl, by simpa using rv⟩) (fun b u z => by have z' : (none : Option HO) = some u := z; cases z') (fun b z => absurd rfl z) fun z => absurd rfl z
  | none =>
    refine core (fun b => if b = a then some (.frz { cls := .type "list", data := .seq vs.toArray } (.lst (ns.map V.int))) else none) (fun b => ?_) (.inl (.inr ⟨{ cls := .type "list", data := .seq vs.toArray }, if_pos rfl⟩)) (fun b u z => ?_) (fun b z => ?_) fun _ => hk
    · by_cases hb : b = a
      · exact .inr ⟨_, _, if_pos hb⟩
      · exact .inl (if_neg hb)
    · by_cases hb : b = a
      · have z' := (if_pos hb).symm.trans z
        cases z'
        subst hb
        exact ⟨ha, by rw [List.length_map]; exact hl, vs, _, rv, ha⟩
      · have z' := (if_neg hb).symm.trans z
        cases z'
    · by_cases hb : b = a
      · exact hb
      · exact absurd (if_neg hb) z
end L2

namespace L2
open PySem PySem.Spec PyProof.Rows

theorem walk_of {l : PySem.W.OpenLaw} {n k : Nat} {q : Program} {loose : List Str} {XP : (Str → Option Value) → Heap → Prop} {YP : World → Heap → Prop} {d : DefRec} {K : Params → PySem.W.Frag} {CX : World → CXT} {sp : World → Sp} {x : Str}
    (hn : l.most = some n) (hn2 : n ≤ sizeLine) (hdf : d.params.defaults = []) (hr : Room k callerA)
    (hY : ∀ (w : World) (h : Heap), YP w h → (K w.params).In h)
    (F : ∀ (w : World) (mg : Str → Option Value) (fa : Addr) (h : Heap), (K w.params).In h → h.Ns mainGlobals mg → mg d.name = some (.ref fa) →
      ∃ fd : FuncData, (∀ (s : Shared) (u : Value), BindsTo s fd ⟨[u], []⟩ [(x, u)]) ∧
        ∀ base : Heap, (K w.params).In base → base.Ns mainGlobals mg → FnOk l.prog w (K w.params) mg base (CX w) k fa fd [x] (sp w))
    (hsp : ∀ (w : World) (H : Hp) (a : Addr) (ns : List Int), ns.length ≤ n → Only H → SqL (K w.params) H a (ns.map V.int) → sp w [.ref a] H (fun v _ => v = .bl true) fun _ _ _ => False)
    (hCX : ∀ (w : World) (H : Hp) (s : Shared) (e : Value) (s' : Shared), CX w [] H s (fun _ _ _ => False) e s' → False) :
    PySem.W.WalkO q loose XP YP l.row.toRowW d [] (fun f vs => PySem.call f vs) := by
  refine Att.attach_call hn hdf fun w s₀ s₁ mg mb fa o pm cd doc a vs ns G Y ho hd hcd hmg hobj hints hlen hg => ?_
  have KX := hY w _ Y
  obtain ⟨fd, hb, hF⟩ := F w mg fa _ KX G.T.g hmg
  exact law_call KX G.T.g G.T.b G.T.builtins G.T.nolimit hg hobj hints (Nat.le_trans hlen hn2) hr hF hb (fun H hO hS => hsp w H a ns hlen hO hS) fun H e s' => hCX w H s₁ e s'
end L2

namespace L2
open PySem PySem.Spec PyProof.Rows

def defArgs (s : Stmt) : Arguments := match s with
  | .FunctionDef _ a _ _ _ _ _ _ _ _ => a
  | _ => { posonlyargs := [], args := [], vararg := none, kwonlyargs := [], kw_defaults := [], kwarg := none, defaults := [] }
def defBody (s : Stmt) : List Stmt := match s with
  | .FunctionDef _ _ b _ _ _ _ _ _ _ => b
  | _ => []
def defScope (s : Stmt) : Scope := match s with
  | .FunctionDef _ _ _ _ _ _ sc _ _ _ => sc
  | _ => { kind := .function, names := [], isGenerator := false, isCoroutine := false }

abbrev CX0 : CXT := fun _ _ _ _ _ _ => False
abbrev E0 : XK := fun _ _ _ => False
theorem pass0 {X : Cx} : Passes CX0 X E0 := fun _ _ _ _ _ _ _ h => h.elim

structure Fun (K : PySem.W.Frag) (x qual : Str) (st : Stmt) (f : Addr) (fd : FuncData) : Prop where
  ex : ∃ (oc : Value) (od : Option Addr) (kV doc pm : Value) (an : Option Addr) (cdv ct : Value) (osl : Array (Option Value)),
    fd = PySem.W.fnOf x qual (defArgs st) (defBody st) (defScope st) .none kV doc pm an cdv ct ∧ K.lookup f = some ⟨oc, od, .func fd, osl⟩ ∧ PySem.W.codeIn K cdv qual = true
  kp : PySem.W.keepIn K (.ref f) = true
section
variable {P : Program} {w : World} {K : PySem.W.Frag} {mg : Str → Option Value} {base : Heap}
theorem Fun.ok {x qual : Str} {st : Stmt} {f : Addr} {fd : FuncData} {N ps : List Str} {k : Nat} {sp : Sp} (F : Fun K x qual st f fd) (S : FnScope N ps (defScope st)) (len : ∀ vs H Q E, sp vs H Q E → vs.length = ps.length)
    (hbody : ∀ (cdv : Value) (A : Around) (outer : List Env) (s : Shared) (H : Hp) (vs : List V) (Q : VK) (E : XK), Room k (A.deeper (envOfC qual (defScope st) s.heap.objs.size f cdv)) → sp vs H Q E →
      ∃ t, PSs (cxOf CX0 P w K mg base N qual (defScope st) f cdv A outer s H E).nox (defBody st) t ∧ t { nx := fun _ H' => Q .non H', rt := Q } (start N vs) H) : FnOk P w K mg base CX0 (k + 1) f fd ps sp := by
  obtain ⟨oc, od, kV, doc, pm, an, cdv, ct, osl, rfl, lk, hcd⟩ := F.ex
  refine fn_of lk hcd S len fun A outer s H vs Q E hr hsp => ?_
  obtain ⟨t, h, q⟩ := hbody cdv A outer s H vs Q E hr hsp
  exact ⟨t, h.nox, q⟩
theorem Fun.binds {x qual : Str} {st : Stmt} {f : Addr} {fd : FuncData} {ps : List Str} (F : Fun K x qual st f fd)
    (h : ∀ (kV doc pm : Value) (an : Option Addr) (cdv ct : Value) (us : List Value), us.length = ps.length → bindArgs (PySem.W.fnOf x qual (defArgs st) (defBody st) (defScope st) .none kV doc pm an cdv ct) ⟨us, []⟩ = pure (ps.zip us)) : Binds K fd ps [] := by
  obtain ⟨oc, od, kV, doc, pm, an, cdv, ct, osl, rfl, lk, hcd⟩ := F.ex
  exact .all (h kV doc pm an cdv ct)
theorem fun_mk {x qual : Str} {st : Stmt} {f : Addr} {oc : Value} {od an : Option Addr} {osl : Array (Option Value)} {kV doc pm cdv ct : Value} (l : K.lookup f = some ⟨oc, od, .func (PySem.W.fnOf x qual (defArgs st) (defBody st) (defScope st) .none kV doc pm an cdv ct), osl⟩)
    (c : PySem.W.codeIn K cdv qual = true) (k : PySem.W.keepIn K (.ref f) = true) : Fun K x qual st f (PySem.W.fnOf x qual (defArgs st) (defBody st) (defScope st) .none kV doc pm an cdv ct) := ⟨⟨oc, od, kV, doc, pm, an, cdv, ct, osl, rfl, l, c⟩, k⟩
end
theorem small1000 {n : Nat} (h : n ≤ 1000) : n < sizeLine := Nat.lt_of_le_of_lt h (by decide)

section
variable {X : Cx}
theorem pv (i : Nat) {x : Str} {pos : Pos} (hN : X.N[i]? = some x := by rfl) (hv : Vis X.env.scope x := by first | exact Or.inl rfl | exact Or.inr (Or.inl rfl) | exact Or.inr (Or.inr rfl)) (hd : (x == ("__debug__" : Str)) = false := by decide)
    (hcd : (x == ("__classdict__" : Str)) = false := by decide) : PE X (.Name x pos) (tVar i) := pe_var hN hv hd hcd
end

theorem iteF {A B : Prop} (h : B) : if false = true then A else B := by
  rw [if_neg Bool.false_ne_true]
  exact h
theorem iteT {A B : Prop} (h : A) : if true = true then A else B := by
  rw [if_pos rfl]
  exact h
theorem ite2 {c A B : Prop} [Decidable c] (h1 : c → A) (h2 : ¬ c → B) : if c then A else B := by
  by_cases h : c
  · rw [if_pos h]
    exact h1 h
  · rw [if_neg h]
    exact h2 h
theorem iteNS {c A B : Prop} [Decidable c] (hc : c) (h : B) : if (!decide c) = true then A else B := by
  rw [decide_eq_true hc]
  exact iteF h

def Same (H H' : Hp) : Prop := ∀ b o, H b = some o → H' b = some o
theorem Same.trans {H H1 H2 : Hp} (a : Same H H1) (b : Same H1 H2) : Same H H2 := fun c o h => b c o (a c o h)
theorem Same.free {H H' : Hp} (e : Same H H') {l : Addr} (h : H' l = Option.none) : H l = Option.none := by
  cases q : H l with
  | none => rfl
  | some o =>
    rw [e l o q] at h
    cases h
theorem Same.seq {K : PySem.W.Frag} {H H' : Hp} {a : Addr} {xs : List V} (e : Same H H') (h : SqL K H a xs) : SqL K H' a xs := by
  rcases h with (h | ⟨o, h⟩) | h
  · exact .inl (.inl (e _ _ h))
  · exact .inl (.inr ⟨o, e _ _ h⟩)
  · exact .inr h

end L2

set_option Elab.async false
set_option linter.all false
set_option maxRecDepth 100000
set_option maxHeartbeats 4000000
namespace L3
open PySem PySem.Spec PyProof.Rows L2
abbrev St := L2.St

theorem same_new {H : Hp} {p : Addr} (h : H p = none) (o : HO) : Same H (upd H p o) := fun b u q => by rw [upd_ne (ne_of_none q h)]; exact q
section
variable {X : Cx}

def tMid (t : TS) : TS := fun D σ H => ∃ mid : St → Hp → Prop, t { D with nx := mid } σ H ∧ ∀ σ' H', mid σ' H' → D.nx σ' H'
theorem ps_mid {st : Stmt} {t : TS} (h : PS X st t) : PS X st (tMid t) := by
  intro pins s σ H D I hq
  obtain ⟨mid, ht, hm⟩ := hq
  refine thn (h pins s σ H _ I ht) fun f s' q => ?_
  cases f with
  | next => obtain ⟨σ', H', I', q⟩ := q; exact ⟨σ', H', I', hm _ _ q⟩
  | brk => exact q
  | cont => exact q
  | ret v => exact q

def rInsert : V → List V → Hp → VK → Prop := fun x vs H Q => ∃ l xs k y, x = .ref l ∧ vs = [.int k, y] ∧ H l = some (.lst xs) ∧ 0 ≤ k ∧ k ≤ (xs.length : Int) ∧ xs.length < sizeLine ∧
  Q .non (upd H l (.lst (xs.take k.toNat ++ y :: xs.drop k.toNat)))
theorem mt_insert : MtM X "list.insert" rInsert := by
  intro pins s σ H x vs v us Q I rx rv h
  obtain ⟨l, xs, k, y, rfl, rfl, hH, h0, h1, hz, q⟩ := h
  cases rx
  obtain ⟨u1, u2, rfl, ⟨t, rfl⟩, ru⟩ := rv.two
  obtain ⟨z, its, n, r, hl, e⟩ := I.lstM hH
  have hs : sizeLine = 16777216 := sizeLine_eq
  have hf : Builtin.List.listFitsIndex k = true := fitsIndex_both (by omega) (by omega)
  refine call_meets F.slot_list_insert ⟨_, e, rfl⟩ F.entry_list_insert (F.args_list_insert_3 _ _ _)
    (AutoSeq1.list_insert_list_int_val_1 l its.toArray n k t u2 (by rw [hf]; decide) (by rw [List.size_toArray]; omega)) ⟨e, ?_⟩
  refine ⟨.non, _, I.lset (its' := its.take k.toNat ++ u2 :: its.drop k.toNat) hH e ?_ ((r.take _).append (.cons ru (r.drop _))) ?_, rfl, q⟩
  · have hk : (if k < 0 then (k + (its.toArray.size : Int)).toNat else min k.toNat its.toArray.size) = k.toNat := by
      rw [if_neg (by omega), List.size_toArray]; omega
    show (its.toArray.extract 0 (if k < 0 then (k + (its.toArray.size : Int)).toNat else min k.toNat its.toArray.size)).push u2 ++ its.toArray.extract (if k < 0 then (k + (its.toArray.size : Int)).toNat else min k.toNat its.toArray.size) = _
    rw [hk]
    exact PySem.W.kl_ins_eq its k.toNat u2
  · rw [List.length_append, List.length_cons, List.length_take, List.length_drop]
    omega

theorem call_isinst : CallR X (.builtin "isinstance") (fun xs H Q => ∃ x n t b, xs = [x, .ty n] ∧ TyOf X.K H x t ∧ PySem.W.kitOne X.K t (.type n) = some b ∧ Q (.bl b) H) := by
  intro pins s σ H xs us Q I r h
  obtain ⟨x, n, t, b, rfl, ty, e, q⟩ := h
  obtain ⟨u, v, rfl, rx, ry⟩ := vals2 r
  cases ry
  exact isinst_ok I rx ty e fun tk => ⟨.bl b, H, I.tok tk, rfl, q⟩

mutual
def RdD (K : PySem.W.Frag) (H : Hp) : V → PyData → Prop
  | x, .none => x = .non
  | x, .bool b => x = .bl b
  | x, .int i => x = .int i
  | x, .str z => x = .str z
  | x, .list ds => ∃ a xs, x = .ref a ∧ SqL K H a xs ∧ RdDs K H xs ds
  | x, .tuple ds => ∃ a xs, x = .ref a ∧ SqT K H a xs ∧ RdDs K H xs ds
  | _, .dict _ => False
def RdDs (K : PySem.W.Frag) (H : Hp) : List V → List PyData → Prop
  | [], [] => True
  | x :: xs, d :: ds => RdD K H x d ∧ RdDs K H xs ds
  | [], _ :: _ => False
  | _ :: _, [] => False
end
mutual
theorem reads_of {pins : List (Addr × Obj)} {σ : St} {H : Hp} {s : Shared} (I : Inv X pins σ H s) : ∀ (d : PyData) (x : V) (v : Value), RelV x v → RdD X.K H x d → ∃ as, Reads s.heap v d as
  | .none, x, v, r, h => by
    rw [RdD] at h; subst h; cases r; exact ⟨_, .none⟩
  | .bool b, x, v, r, h => by
    rw [RdD] at h; subst h; cases r; exact ⟨_, .bool b⟩
  | .int i, x, v, r, h => by
    rw [RdD] at h; subst h; obtain ⟨t, rfl⟩ := r; exact ⟨_, .int i t⟩
  | .str z, x, v, r, h => by
    rw [RdD] at h; subst h; obtain ⟨t, rfl⟩ := r; exact ⟨_, .str z t⟩
  | .list ds, x, v, r, h => by
    rw [RdD] at h
    obtain ⟨a, xs, rfl, hq, hs⟩ := h
    cases r
    obtain ⟨its, rv, p, hz⟩ := I.list hq
    obtain ⟨o, ho, hc, n, hd⟩ := p.isList
    obtain ⟨as, ra⟩ := readsAll_of I ds xs its rv hs
    exact ⟨_, .list ho hc hd (by simpa using ra)⟩
  | .tuple ds, x, v, r, h => by
    rw [RdD] at h
    obtain ⟨a, xs, rfl, hq, hs⟩ := h
    cases r
    obtain ⟨its, rv, p, hz⟩ := I.tuple hq
    obtain ⟨o, ho, hc, n, hd⟩ := p
    obtain ⟨as, ra⟩ := readsAll_of I ds xs its rv hs
    exact ⟨_, .tuple ho hc hd (by simpa using ra)⟩
  | .dict _, x, v, r, h => by rw [RdD] at h; exact h.elim
theorem readsAll_of {pins : List (Addr × Obj)} {σ : St} {H : Hp} {s : Shared} (I : Inv X pins σ H s) : ∀ (ds : List PyData) (xs : List V) (us : List Value), Vals xs us → RdDs X.K H xs ds → ∃ as, ReadsAll s.heap us ds as
  | [], xs, us, r, h => by
    cases r with
    | nil => exact ⟨_, .nil⟩
    | cons r rr => rw [RdDs] at h; exact h.elim
  | d :: ds, xs, us, r, h => by
    cases r with
    | nil => rw [RdDs] at h; exact h.elim
    | cons r rr =>
      rw [RdDs] at h
      obtain ⟨a1, h1⟩ := reads_of I d _ _ r h.1
      obtain ⟨a2, h2⟩ := readsAll_of I ds _ _ rr h.2
      exact ⟨_, .cons h1 h2⟩
end
def rEqD (K : PySem.W.Frag) : R2 := fun x y H Q => ∃ dx dy, RdD K H x dx ∧ RdD K H y dy ∧ dx.canLay0 = true ∧ dy.canLay0 = true ∧ min dx.depth dy.depth ≤ 60 ∧ Q (.bl (PyData.eqv dx dy)) H
def rNeD (K : PySem.W.Frag) : R2 := fun x y H Q => ∃ dx dy, RdD K H x dx ∧ RdD K H y dy ∧ dx.canLay0 = true ∧ dy.canLay0 = true ∧ min dx.depth dy.depth ≤ 60 ∧ Q (.bl (!PyData.eqv dx dy)) H
theorem op_eqD (hu : X.A.units + 64 < cLine) : OpR X (compareOp .Eq) (rEqD X.K) := by
  intro pins s σ H x y v u Q I rx ry h
  obtain ⟨dx, dy, h1, h2, c1, c2, hd, q⟩ := h
  obtain ⟨as, ra⟩ := reads_of I dx x v rx h1
  obtain ⟨bs, rb⟩ := reads_of I dy y u ry h2
  exact SeqAt.compareEq_reads ra rb c1 c2 (by omega) ⟨.bl _, H, I, rfl, q⟩
theorem op_neD (hu : X.A.units + 64 < cLine) : OpR X (compareOp .NotEq) (rNeD X.K) := by
  intro pins s σ H x y v u Q I rx ry h
  obtain ⟨dx, dy, h1, h2, c1, c2, hd, q⟩ := h
  obtain ⟨as, ra⟩ := reads_of I dx x v rx h1
  obtain ⟨bs, rb⟩ := reads_of I dy y u ry h2
  exact SeqAt.compareNe_reads ra rb c1 c2 (by omega) ⟨.bl _, H, I, rfl, q⟩
end

theorem rd_ints {K : PySem.W.Frag} {H : Hp} : ∀ ns : List Int, RdDs K H (ns.map V.int) (ns.map PyData.int)
  | [] => by rw [List.map_nil, List.map_nil, RdDs]; trivial
  | n :: r => by
    rw [List.map_cons, List.map_cons, RdDs, RdD]
    exact ⟨rfl, rd_ints r⟩
theorem rd_list {K : PySem.W.Frag} {H : Hp} {a : Addr} {ns : List Int} (h : SqL K H a (ns.map V.int)) : RdD K H (.ref a) (.list (ns.map PyData.int)) := by
  rw [RdD]
  exact ⟨a, _, rfl, h, rd_ints ns⟩
theorem lay_ints : ∀ ns : List Int, PyData.canLayAll0 (ns.map PyData.int) = true
  | [] => rfl
  | n :: r => by
    rw [List.map_cons, PyData.canLayAll0, PyData.canLay0, lay_ints r]; rfl
theorem depth_ints : ∀ ns : List Int, PyData.depthAll (ns.map PyData.int) = 0
  | [] => rfl
  | n :: r => by
    rw [List.map_cons, PyData.depthAll, depth_ints r]; rfl
theorem eqv_ints : ∀ ns ms : List Int, PyData.eqvAll (ns.map PyData.int) (ms.map PyData.int) = decide (ns = ms)
  | [], [] => rfl
  | [], _ :: _ => by simp [PyData.eqvAll]
  | _ :: _, [] => by simp [PyData.eqvAll]
  | n :: r, m :: t => by
    rw [List.map_cons, List.map_cons, PyData.eqvAll, PyData.eqv, eqv_ints r t, Bool.eq_iff_iff]
    simp
section
variable {X : Cx}
def rEqL (K : PySem.W.Frag) : R2 := fun x y H Q => ∃ (a b : Addr) (ns ms : List Int), x = .ref a ∧ y = .ref b ∧ SqL K H a (ns.map V.int) ∧ SqL K H b (ms.map V.int) ∧ Q (.bl (decide (ns = ms))) H
def rNeL (K : PySem.W.Frag) : R2 := fun x y H Q => ∃ (a b : Addr) (ns ms : List Int), x = .ref a ∧ y = .ref b ∧ SqL K H a (ns.map V.int) ∧ SqL K H b (ms.map V.int) ∧ Q (.bl (!decide (ns = ms))) H
theorem depth_list (ns : List Int) : (PyData.list (ns.map PyData.int)).depth = 1 := by rw [PyData.depth, depth_ints]
theorem op_eqL (hu : X.A.units + 64 < cLine) : OpR X (compareOp .Eq) (rEqL X.K) := by
  intro pins s σ H x y v u Q I rx ry h
  obtain ⟨a, b, ns, ms, rfl, rfl, h1, h2, q⟩ := h
  refine op_eqD hu pins s σ H _ _ v u Q I rx ry ⟨_, _, rd_list h1, rd_list h2, by rw [PyData.canLay0]; exact lay_ints ns, by rw [PyData.canLay0]; exact lay_ints ms, by rw [depth_list, depth_list]; decide, ?_⟩
  rw [PyData.eqv, eqv_ints]
  exact q
theorem op_neL (hu : X.A.units + 64 < cLine) : OpR X (compareOp .NotEq) (rNeL X.K) := by
  intro pins s σ H x y v u Q I rx ry h
  obtain ⟨a, b, ns, ms, rfl, rfl, h1, h2, q⟩ := h
  refine op_neD hu pins s σ H _ _ v u Q I rx ry ⟨_, _, rd_list h1, rd_list h2, by rw [PyData.canLay0]; exact lay_ints ns, by rw [PyData.canLay0]; exact lay_ints ms, by rw [depth_list, depth_list]; decide, ?_⟩
  rw [PyData.eqv, eqv_ints]
  exact q
end

def Ite (K : PySem.W.Frag) (a : Addr) : It :=
  ⟨fun i H => ∃ xs x, SqL K H a xs ∧ xs[i]? = some x,
   fun i H x H' => ∃ p y, x = .ref p ∧ H p = none ∧ H' = upd H p (.tup [.int (i : Int), y]) ∧ ∀ xs, SqL K H a xs → xs[i]? = some y,
   fun i H => ∃ xs, SqL K H a xs ∧ xs.length ≤ i⟩
theorem turn_enum {P : Program} {w : World} {K : PySem.W.Frag} {elts : List Expr} {kk : Nat} {pos : Pos} (a it e : Addr) (hne : e ≠ it) :
    Turn P w K (.Tuple elts kk pos) (Ite K a) [e, it] e (fun i h => (∃ old, IsEnum h e it (i : Int) old) ∧ h.IsListIter it a i) where
  mem := by simp
  obj := fun i h st b hb => by
    obtain ⟨⟨old, he⟩, hit⟩ := st
    rcases List.mem_cons.mp hb with hb | hb
    · subst hb
      exact ⟨_, he, fun v z => by
        have z' : Data.fields _ = Data.cell v := z
        cases z'⟩
    · have e2 : b = it := by simpa using hb
      subst e2
      obtain ⟨o, e, c, d⟩ := hit
      exact ⟨o, e, fun v z => by rw [d] at z; cases z⟩
  keep := fun i h h' st k => by
    obtain ⟨⟨old, he⟩, hit⟩ := st
    exact ⟨⟨old, k e (by simp) _ he⟩, hit.at fun o q => k it (by simp) o q⟩
  item := by
    intro X hP hw hK hc i pins s σ H E I hf st hg
    subst hP hw hK
    obtain ⟨xs, x, hq, hx⟩ := hg
    obtain ⟨its, rv, p, hz⟩ := I.list hq
    obtain ⟨u, hu, ru⟩ := rv.get hx
    obtain ⟨⟨old, he⟩, hit⟩ := st
    obtain ⟨f0, f1, f2, f3, f4, f5⟩ := hf e (by simp)
    obtain ⟨g0, g1, g2, g3, g4, g5⟩ := hf it (by simp)
    refine wpAny_pyNext_enum_item he hit p.isList (x := u) (by simpa using hu) hne fun h1 heo hit1 ht1 hz1 hk1 => ?_
    refine ⟨_, rfl, wpAny_letOwnedTupleGo_enum heo fun h2 he2 hs2 => ?_⟩
    have hs2' : Heap.SameBut e h1 h2 := hs2
    have helt : e < s.heap.objs.size := Heap.lt_size he
    have old2 : ∀ b o, b ≠ e → b ≠ it → s.heap.get? b = some o → h2.get? b = some o := fun b o n1 n2 q => (hs2'.2 b n1).trans (hk1 b o n1 n2 q)
    have hTe : s.heap.objs.size ≠ e := Nat.ne_of_gt helt
    have ht2 : h2.get? s.heap.objs.size = some { cls := .type "tuple", data := .seq #[.int (i : Int) s.toks, u] } := (hs2'.2 _ hTe).trans ht1
    have hn : H s.heap.objs.size = none := I.hok.fresh (Nat.le_refl _)
    have nch : ∀ b, b ∉ [e, it] → b ≠ e ∧ b ≠ it := fun b hb => ⟨fun z => hb (by simp [z]), fun z => hb (by simp [z])⟩
    have trk : ∀ b o, H b = some o → b ≠ e ∧ b ≠ it := fun b o q => ⟨ne_of_none q f0, ne_of_none q g0⟩
    have new : ObjOk X.prog X.w (upd H s.heap.objs.size (.tup [.int (i : Int), x])) h2 s.heap.objs.size (.tup [.int (i : Int), x]) :=
      ⟨by show 2 ≤ sizeLine; rw [sizeLine_eq]; decide, [.int (i : Int) s.toks, u], .cons ⟨_, rfl⟩ (.cons ru .nil), ⟨_, ht2, rfl, _, rfl⟩⟩
    have hok2 : HOk X.prog X.w (upd H s.heap.objs.size (.tup [.int (i : Int), x])) h2 := fun b o q => by
      by_cases hb : b = s.heap.objs.size
      · subst hb; rw [upd_same] at q; cases q; exact new
      · rw [upd_ne hb] at q
        refine (I.hok b o q).stay (fun c v hc' r => ?_) (fun c r => by rw [upd_ne (ne_of_none r hn)]; exact r) fun c ys r => by rw [upd_ne (ne_of_none r hn)]; exact r
        have hcc : c ≠ e ∧ c ≠ it := by
          rcases hc' with z | z
          · subst z; exact trk c o q
          · exact trk c _ z
        exact old2 c v hcc.1 hcc.2 r
    have I2 : Inv X pins σ (upd H s.heap.objs.size (.tup [.int (i : Int), x])) { s with heap := h2, toks := s.toks + 1 } :=
      I.step (g' := s.gens) (d' := s.drawn) (ch := [e, it])
        (fun b hb => by
          rcases List.mem_cons.mp hb with z | z
          · subst z; exact ⟨f3, f1, f4, f5⟩
          · have z' : b = it := by simpa using z
            subst z'; exact ⟨g3, g1, g4, g5⟩)
        (fun b o _ _ hb q _ => old2 b o (nch b hb).1 (nch b hb).2 q)
        (fun b o _ _ hb q _ => ⟨o.slots, old2 b o (nch b hb).1 (nch b hb).2 q⟩)
        (fun b o _ q n => by rw [upd_ne (Nat.ne_of_lt (Heap.lt_size q))]; exact n)
        (fun b o hb q => ⟨o, old2 b o (nch b hb).1 (nch b hb).2 q⟩)
        (fun b ys q => by rw [upd_ne (ne_of_none q hn)]; exact q)
        (fun b o u q => by rw [upd_ne (ne_of_none q hn)]; exact q)
        (fun b ps q => ⟨#[], by rw [upd_ne (ne_of_none q hn), q]; simp⟩)
        (fun m hm => by
          obtain ⟨o, es, ep, ho, r⟩ := hm
          exact ⟨o, es, ep, old2 _ o (Ne.symm f1) (Ne.symm g1) ho, r⟩) hok2 I.bare
    refine ⟨.ref s.heap.objs.size, _, I2, rfl, ⟨_, x, rfl, hn, rfl, fun ys hy => by rw [I.list_inj hy hq]; exact hx⟩, ⟨⟨u, ?_⟩, ?_⟩, fun b hb => ?_⟩
    · have e3 : ((i + 1 : Nat) : Int) = (i : Int) + 1 := by omega
      rw [e3]; exact he2
    · exact hit1.extBut hs2'.extBut (Ne.symm hne)
    · have hbz : b ≠ s.heap.objs.size := by
        rcases List.mem_cons.mp hb with z | z
        · subst z; exact Ne.symm hTe
        · have z' : b = it := by simpa using z
          subst z'
          obtain ⟨o, q, _⟩ := hit
          exact Nat.ne_of_lt (Heap.lt_size q)
      rw [upd_ne hbz]
      exact (hf b hb).1
  done := by
    intro X hP hw hK hc i pins s σ H E I hf st hg
    subst hP hw hK
    obtain ⟨xs, hq, hx⟩ := hg
    obtain ⟨its, rv, p, hz⟩ := I.list hq
    obtain ⟨⟨old, he⟩, hit⟩ := st
    obtain ⟨f0, f1, f2, f3, f4, f5⟩ := hf it (by simp)
    have hl := rv.length
    exact wpAny_pyNext_enum_end (I.ok.hd hc) he hit p.isList (by simp; omega) fun h' eb => ⟨rfl, I.turned (t' := s.toks) (fun b o hb z => eb b o hb z) f0 f1 f3 f4 f5⟩
  self := fun _ _ _ _ _ st h => by
    obtain ⟨⟨old, he⟩, _⟩ := st
    exact wpAny_pyIter_enum he h
section
variable {X : Cx}
def iEnum (K : PySem.W.Frag) (ta : TA) : TI := fun σ H R => ta σ H fun vs H1 => ∃ a, vs = [.ref a] ∧ (∃ xs, SqL K H1 a xs) ∧ R (Ite K a) H1
theorem pi_enum {l : Expr} {ta : TA} {elts : List Expr} {kk : Nat} {tpos p pos : Pos} (hg : Gl X "enumerate") (hm : X.mg "enumerate" = none) (ha : PA X [l] ta) (hs : starEach [l] X.env = [(false, eval l X.env)] := by rfl) :
    PI X (.Tuple elts kk tpos) (.Call (.Name "enumerate" p) [l] [] pos) (iEnum X.K ta) := by
  intro pins s σ H R I h
  refine Call_ (ld_blt I hg hm boot_enumerate (PyProof.Rows.callWith_type1 (thn (ha pos pins s σ H _ I h) fun us s1 ⟨vs, H1, I1, r1, q1⟩ => ?_) hs rfl))
  obtain ⟨a, rfl, ⟨xs, hq⟩, q⟩ := q1
  obtain ⟨u, rfl, rx⟩ := vals1 r1
  cases rx
  obtain ⟨its, rv, p, hz⟩ := I1.list hq
  refine call_enumerate_list p.isList fun h' he hit hz' hk => ?_
  refine wpAny_pyIter_enum he ?_
  have I2 : Inv X pins σ H1 { s1 with heap := h' } := I1.kept (t' := s1.toks) hk
  refine ⟨s1.heap.objs.size + 1, [s1.heap.objs.size + 1, s1.heap.objs.size], _, _, H1, rfl, I2, turn_enum a _ _ (Nat.succ_ne_self _), ⟨⟨_, he⟩, hit⟩, fun b hb => ?_, q⟩
  have e : s1.heap.objs.size ≤ b := by
    rcases List.mem_cons.mp hb with z | z
    · rw [z]; exact Nat.le_succ _
    · have z' : b = s1.heap.objs.size := by simpa using z
      rw [z']; exact Nat.le_refl _
  exact I1.fpOk e (I1.hok.fresh e)
end
end L3

set_option Elab.async false
set_option linter.all false
set_option maxRecDepth 100000
set_option maxHeartbeats 4000000
namespace L3
open PySem PySem.Spec PyProof.Rows L2

theorem ints_at {vs : List Value} {ns : List Int} (h : IntsAre vs ns) {j : Nat} {a : Int} (e : ns[j]? = some a) : ∃ t, vs[j]? = some (.int a t) := by
  have r := vals_ints h
  obtain ⟨u, hu, ru⟩ := r.get (i := j) (x := .int a) (by rw [List.getElem?_map, e]; rfl)
  obtain ⟨t, rfl⟩ := ru
  exact ⟨t, hu⟩
section
variable {P : Program} {w : World} {A : Around} {R : Result → Shared → Prop}
theorem min_turns (hh : A.handled = none) {it l S : Addr} {vs : List Value} {ns : List Int} (hI : IntsAre vs ns) {d : Value} (nli : l ≠ it) (nSi : S ≠ it) (nSl : S ≠ l) :
    ∀ (k j : Nat) (s : Shared) (M : Int) (t : Tok) (c : Nat), j + k = vs.length → s.heap.IsListIter it l j → s.heap.IsList l vs.toArray →
    s.heap.get? S = some { cls := .type "list", dict := none, data := .seq #[.int M t, .int M t] c, slots := #[] } → M ∈ ns → (∀ a ∈ ns.take j, M ≤ a) →
    (∀ (M' : Int) (t' : Tok) (h' : Heap) (tk : Nat), M' ∈ ns → (∀ a ∈ ns, M' ≤ a) → (∀ b o, b ≠ it → b ≠ S → s.heap.get? b = some o → h'.get? b = some o) → R (.ok (.ret (.int M' t'))) { s with heap := h', toks := tk }) →
    codeAny (model P w) A (.builtin "min.loop" ⟨[.ref it, .none, .ref S], [("default", d)]⟩) R s
  | 0, j, s, M, t, c, hjk, hit, hl, hS, hM, hle, fin => by
    have hlen := IntsAre.length hI
    refine codeAny_builtin F.entry_min_loop ?_
    rw [Around.under_plainId F.plain_min_loop _]
    show wpAny _ A.in1 (seqItems? (.ref S) >>= _) _ _ s
    refine wpAny_bind (wpAny_seqItems hS rfl ?_)
    show wpAny _ A.in1 (tryCatch (pyNext (.ref it)) _ >>= _) _ _ s
    refine wpAny_bind (wpAny_tryCatch (wpAny_pyNext_list_end (show A.in1.handled = none from hh) hit hl (by simp; omega) fun h' eb => ?_))
    have hS' := eb S _ nSi hS
    show wpAny _ A.in1 (updateSeq S (fun _ => #[]) >>= _) _ _ _
    refine wpAny_bind ?_
    refine wpAny_updateSeq hS' rfl (wpAny_bind (wpAny_letGo (wpAny_pure ?_)))
    exact fin M t _ s.toks hM (fun a ha => hle a (by rw [List.take_of_length_le (by omega)]; exact ha)) fun b o n1 n2 q => (Heap.get?_update_other _ _ (Ne.symm n2)).trans (eb b o n1 q)
  | k + 1, j, s, M, t, c, hjk, hit, hl, hS, hM, hle, fin => by
    have hlen := IntsAre.length hI
    have hname : (toString "min" ++ toString ".loop" : String) = "min.loop" := by decide
    have hj : j < ns.length := by omega
    have hnj : ns[j]? = some ns[j] := List.getElem?_eq_getElem hj
    obtain ⟨ta, hv⟩ := ints_at hI hnj
    have htake : ∀ a ∈ ns.take (j + 1), a ∈ ns.take j ∨ a = ns[j] := fun a ha => by
      rw [List.take_succ_eq_append_getElem hj] at ha
      rcases List.mem_append.mp ha with z | z
      · exact .inl z
      · exact .inr (by simpa using z)
    refine codeAny_builtin F.entry_min_loop ?_
    rw [Around.under_plainId F.plain_min_loop _]
    show wpAny _ A.in1 (seqItems? (.ref S) >>= _) _ _ s
    refine wpAny_bind (wpAny_seqItems hS rfl ?_)
    show wpAny _ A.in1 (tryCatch (pyNext (.ref it)) _ >>= _) _ _ s
    refine wpAny_bind (wpAny_tryCatch (wpAny_pyNext_list_item hit hl (x := .int ns[j] ta) (by simpa using hv) fun h' hit' sb => ?_))
    have hS' : h'.get? S = _ := (sb.2 S nSi).trans hS
    have hl' : h'.IsList l vs.toArray := hl.extBut sb.extBut nli
    show wpAny _ A.in1 (tryCatch (holding [_, _] (richCompare .Lt (.int ns[j] ta) (.int M t) >>= _)) _ >>= _) _ _ _
    refine wpAny_bind (wpAny_tryCatch (wpAny_holding (wpAny_bind (show wpAny _ _ (compareOp .Lt (.int ns[j] ta) (.int M t)) _ _ _ from lt_int ?_))))
    refine wpAny_bind (wpAny_holding (wpAny_truthy_bool ?_))
    refine wpAny_bind (wpAny_letGo (wpAny_pure ?_))
    by_cases hb : ns[j] < M
    · rw [if_pos (by simpa using hb)]
      refine wpAny_bind ?_
      refine wpAny_updateSeq hS' rfl (wpAny_bind (wpAny_letGo ?_))
      rw [hname]
      refine wpAny_pure ⟨plainId_quiet F.plain_min_loop _, min_turns hh hI nli nSi nSl k (j + 1) _ ns[j] ta _ (by omega) ?_ ?_ (Heap.get?_update_self _ hS' rfl) (List.getElem_mem hj) (fun a ha => ?_) fun M' t' h'' tk m1 m2 m3 => ?_⟩
      · exact hit'.at fun o q => (Heap.get?_update_other _ _ nSi).trans q
      · exact hl'.at fun o q => (Heap.get?_update_other _ _ nSl).trans q
      · rcases htake a ha with z | z
        · have := hle a z; omega
        · omega
      · exact fin M' t' h'' tk m1 m2 fun b o n1 n2 q => m3 b o n1 n2 ((Heap.get?_update_other _ _ (Ne.symm n2)).trans ((sb.2 b n1).trans q))
    · rw [if_neg (by simpa using hb)]
      refine wpAny_bind (wpAny_letGo ?_)
      rw [hname]
      refine wpAny_pure ⟨plainId_quiet F.plain_min_loop _, min_turns hh hI nli nSi nSl k (j + 1) _ M t c (by omega) hit' hl' hS' hM (fun a ha => ?_) fun M' t' h'' tk m1 m2 m3 => ?_⟩
      · rcases htake a ha with z | z
        · exact hle a z
        · omega
      · exact fin M' t' h'' tk m1 m2 fun b o n1 n2 q => m3 b o n1 n2 ((sb.2 b n1).trans q)
theorem min_start (hh : A.handled = none) {it l S : Addr} {vs : List Value} {ns : List Int} (hI : IntsAre vs ns) {d : Value} (nli : l ≠ it) (nSi : S ≠ it) (nSl : S ≠ l) {s : Shared} {c : Nat}
    (hit : s.heap.IsListIter it l 0) (hl : s.heap.IsList l vs.toArray) (hS : s.heap.get? S = some { cls := .type "list", dict := none, data := .seq #[] c, slots := #[] })
    (fin0 : ns = [] → ∀ (h' : Heap) (tk : Nat), (∀ b o, b ≠ it → b ≠ S → s.heap.get? b = some o → h'.get? b = some o) → R (.ok (.ret d)) { s with heap := h', toks := tk })
    (fin : ∀ (M' : Int) (t' : Tok) (h' : Heap) (tk : Nat), M' ∈ ns → (∀ a ∈ ns, M' ≤ a) → (∀ b o, b ≠ it → b ≠ S → s.heap.get? b = some o → h'.get? b = some o) → R (.ok (.ret (.int M' t'))) { s with heap := h', toks := tk }) :
    codeAny (model P w) A (.builtin "min.loop" ⟨[.ref it, .none, .ref S], [("default", d)]⟩) R s := by
  have hlen := IntsAre.length hI
  have hname : (toString "min" ++ toString ".loop" : String) = "min.loop" := by decide
  refine codeAny_builtin F.entry_min_loop ?_
  rw [Around.under_plainId F.plain_min_loop _]
  show wpAny _ A.in1 (seqItems? (.ref S) >>= _) _ _ s
  refine wpAny_bind (wpAny_seqItems hS rfl ?_)
  show wpAny _ A.in1 (tryCatch (pyNext (.ref it)) _ >>= _) _ _ s
  cases hns : ns with
  | nil =>
    subst hns
    refine wpAny_bind (wpAny_tryCatch (wpAny_pyNext_list_end (show A.in1.handled = none from hh) hit hl (by simp at hlen ⊢; exact hlen) fun h' eb => ?_))
    refine wpAny_bind (wpAny_rule (wpAny_pure ?_))
    exact fin0 rfl h' s.toks fun b o n1 n2 q => eb b o n1 q
  | cons n r =>
    obtain ⟨ta, hv⟩ := ints_at hI (j := 0) (a := n) (by rw [hns]; rfl)
    refine wpAny_bind (wpAny_tryCatch (wpAny_pyNext_list_item hit hl (x := .int n ta) (by simpa using hv) fun h' hit' sb => ?_))
    have hS' : h'.get? S = _ := (sb.2 S nSi).trans hS
    have hl' : h'.IsList l vs.toArray := hl.extBut sb.extBut nli
    show wpAny _ A.in1 (updateSeq S (fun _ => #[.int n ta, .int n ta]) >>= _) _ _ _
    refine wpAny_bind ?_
    refine wpAny_updateSeq hS' rfl ?_
    rw [hname]
    refine wpAny_pure ⟨plainId_quiet F.plain_min_loop _, min_turns hh hI nli nSi nSl (vs.length - 1) 1 _ n ta _ ?_ ?_ ?_ (Heap.get?_update_self _ hS' rfl) ?_ (fun a ha => ?_) fun M' t' h'' tk m1 m2 m3 => ?_⟩
    · rw [hns, List.length_cons] at hlen; omega
    · exact hit'.at fun o q => (Heap.get?_update_other _ _ nSi).trans q
    · exact hl'.at fun o q => (Heap.get?_update_other _ _ nSl).trans q
    · rw [hns]; exact List.mem_cons_self ..
    · rw [hns] at ha
      have e : a = n := by simpa using ha
      omega
    · exact fin M' t' h'' tk m1 m2 fun b o n1 n2 q => m3 b o n1 n2 ((Heap.get?_update_other _ _ (Ne.symm n2)).trans ((sb.2 b n1).trans q))
end
section
variable {X : Cx}
theorem args_min_d (a d : Value) : argsOk "min" ⟨[a], [("default", d)]⟩ := by unfold argsOk; kernel_rfl
def tMinD (K : PySem.W.Frag) (ta : TA) (td : TE) : TE := fun σ H Q => ta σ H fun vs H1 => td σ H1 fun d H2 => ∃ a ns, vs = [.ref a] ∧ SqL K H2 a (ns.map V.int) ∧
  (ns = [] → Q d H2) ∧ ∀ M : Int, M ∈ ns → (∀ b ∈ ns, M ≤ b) → Q (.int M) H2
theorem pe_minD {e ed : Expr} {ta : TA} {td : TE} {p pos kpos : Pos} (hc : X.calm = true) (hg : Gl X "min") (hm : X.mg "min" = none) (ha : PA X [e] ta) (hd : PE X ed td)
    (he : starEach [e] X.env = [(false, eval e X.env)] := by rfl) : PE X (.Call (.Name "min" p) [e] [⟨some "default", ed, kpos⟩] pos) (tMinD X.K ta td) := by
  intro pins s σ H Q I h
  refine wpAny_Call_Name_kw (ld_blt I hg hm boot_min ?_ (by decide) (by decide))
  refine callWith_kw (thn (ha pos pins s σ H _ I h) fun us s1 ⟨vs, H1, I1, r1, q1⟩ => ?_) (by rw [he]; rfl) (by rw [he]; rfl)
  refine kws_cons (thn (hd pins s1 σ H1 _ I1 q1) fun dv s2 ⟨d, H2, I2, r2, q2⟩ => kws_nil ?_)
  obtain ⟨a, ns, rfl, hq, q0, qM⟩ := q2
  obtain ⟨u, rfl, rx⟩ := vals1 r1
  cases rx
  obtain ⟨its, rv, pl, hz⟩ := I2.list hq
  have hI := intsAre_of rv
  show wpAny _ _ (call (.builtin "min") [.ref a] [("default", dv)]) _ _ s2
  refine wpAny_call (codeAny_call_builtin F.plain_min F.entry_min ?_)
  simp only [checkBuiltinCall, F.kind_min]
  have body : wpAny (model X.prog X.w) X.A.in1 (Builtin.«min» ⟨[.ref a], [("default", dv)]⟩) (fun fin s' => match fin with
      | .done f => (match (Except.ok f : Result) with | .ok (.ret v) => EP X pins σ Q v s' | .ok _ => False | .error e => X.xe e s')
      | .again c' => c'.quiet = true ∧ codeAny (model X.prog X.w) X.A c' (fun r s' => match r with | .ok (.ret v) => EP X pins σ Q v s' | .ok _ => False | .error e => X.xe e s') s') X.xe s2 := by
    have hname : (toString "min" ++ toString ".loop" : String) = "min.loop" := by decide
    show wpAny _ X.A.in1 (Builtin.Builtins.bindParams "min" ["key", "default"] 0 ⟨[], [("default", dv)]⟩ >>= _) _ _ s2
    refine wpAny_bind (wpAny_of_eq (show Builtin.Builtins.bindParams "min" ["key", "default"] 0 ⟨[], [("default", dv)]⟩ = pure [none, some dv] from rfl) ?_)
    refine wpAny_bind (wpAny_pure ?_)
    refine wpAny_bind (wpAny_pyIter_list pl.isList ?_)
    refine wpAny_bind (wpAny_newObj_type ?_)
    rw [hname]
    have hal : a < s2.heap.objs.size := by
      obtain ⟨o, ho, _⟩ := pl.isList
      exact Heap.lt_size ho
    have hsz : (s2.heap.push { cls := .type "list_iterator", data := .fields #[.ref a, .int 0 0] }).objs.size = s2.heap.objs.size + 1 := Heap.size_push ..
    have kept : ∀ {h' : Heap}, (∀ b o, b ≠ s2.heap.objs.size → b ≠ (s2.heap.push { cls := .type "list_iterator", data := .fields #[.ref a, .int 0 0] }).objs.size →
        ((s2.heap.push { cls := .type "list_iterator", data := .fields #[.ref a, .int 0 0] }).push { cls := .type "list", data := .seq #[] }).get? b = some o → h'.get? b = some o) →
        ∀ b o, s2.heap.get? b = some o → h'.get? b = some o := fun {h'} k b o q => by
      have hb := Heap.lt_size q
      exact k b o (Nat.ne_of_lt hb) (by rw [hsz]; exact Nat.ne_of_lt (Nat.lt_succ_of_lt hb)) (Heap.get?_push_of_some _ (Heap.get?_push_of_some _ q))
    refine wpAny_pure ⟨plainId_quiet F.plain_min_loop _, min_start (I2.ok.hd hc) hI (d := dv) (Nat.ne_of_lt hal) (by rw [hsz]; exact Nat.succ_ne_self _) (by rw [hsz]; exact Nat.ne_of_gt (Nat.lt_succ_of_lt hal)) (c := 0) ?_ ?_ ?_ (fun e0 h' tk k => ?_) fun M t h' tk m1 m2 k => ?_⟩
    · exact ⟨_, Heap.get?_push_of_some _ (Heap.get?_push_size _ rfl), rfl, rfl⟩
    · exact pl.isList.at fun o q => Heap.get?_push_of_some _ (Heap.get?_push_of_some _ q)
    · exact Heap.get?_push_size _ rfl
    · exact ⟨d, H2, I2.kept (t' := tk) (kept k), r2, q0 e0⟩
    · exact ⟨.int M, H2, I2.kept (t' := tk) (kept k), ⟨t, rfl⟩, qM M m1 m2⟩
  cases hsig : Manifest.signature? "min" with
  | none => exact wpAny_pure body
  | some sig =>
    have ha' := args_min_d (.ref a) dv
    simp only [argsOk, hsig] at ha'
    have h2 : Bind.checkArgs "min" sig ⟨[.ref a], [("default", dv)]⟩ = pure () := ha'
    show wpAny _ X.A.in1 (Bind.checkArgs "min" sig ⟨[.ref a], [("default", dv)]⟩) _ _ s2
    rw [h2]
    exact wpAny_pure body
end
end L3

set_option Elab.async false
set_option linter.all false
set_option maxRecDepth 100000
set_option maxHeartbeats 4000000
namespace L3
open PySem PySem.Spec PyProof.Rows L2

def clStep (env : Env) (cs : List (Str × Addr)) (x : Str × NameKind) : List (Str × Addr) := if x.2 = .free then (x.1, (env.cells.lookup x.1).getD 0) :: cs else cs
def clOf (env : Env) (names : List (Str × NameKind)) : List (Str × Addr) := names.foldl (clStep env) []
theorem forIn_fold {α β : Type} {f : α → β → Sem (ForInStep β)} (g : β → α → β) : ∀ (l : List α) (b : β), (∀ x ∈ l, ∀ c, f x c = pure (.yield (g c x))) → forIn l b f = pure (l.foldl g b)
  | [], _, _ => rfl
  | x :: l, b, h => by
    rw [List.forIn_cons, h x List.mem_cons_self, pure_bind]
    exact forIn_fold g l (g b x) fun y hy => h y (List.mem_cons_of_mem _ hy)
theorem closure_is {scope : Scope} {env : Env} (h : ∀ y ∈ scope.names, y.2 = .free → ∃ c, env.cells.lookup y.1 = some c) : closureFor scope env = pure (clOf env scope.names) := by
  simp only [closureFor]
  rw [forIn_fold (clStep env) scope.names [] fun x hx cs => ?_]
  · rfl
  · obtain ⟨n, kind⟩ := x
    by_cases hk : kind = .free
    · obtain ⟨c, hc⟩ := h _ hx hk
      have hc' : env.cells.lookup n = some c := hc
      have e1 : (kind == NameKind.free) = true := by rw [hk]; rfl
      have e2 : clStep env cs (n, kind) = (n, c) :: cs := by
        unfold clStep
        rw [if_pos hk]
        show (n, (env.cells.lookup n).getD 0) :: cs = _
        rw [hc']; rfl
      rw [e2]
      simp only [e1, if_true, cellOf, hc', pure_bind]
    · have e1 : (kind == NameKind.free) = false := by simpa using hk
      have e2 : clStep env cs (n, kind) = cs := by
        unfold clStep
        rw [if_neg hk]
      rw [e2]
      simp only [e1, Bool.false_eq_true, if_false]
theorem cl_sub {env : Env} : ∀ (names : List (Str × NameKind)) (cs : List (Str × Addr)), (∀ y ∈ names, y.2 = .free → ∃ c, env.cells.lookup y.1 = some c) → (∀ x c, cs.lookup x = some c → env.cells.lookup x = some c) →
    ∀ x c, (names.foldl (clStep env) cs).lookup x = some c → env.cells.lookup x = some c
  | [], _, _, hc => hc
  | y :: r, cs, h, hc => by
    refine cl_sub r (clStep env cs y) (fun z hz => h z (List.mem_cons_of_mem _ hz)) fun x c e => ?_
    unfold clStep at e
    split at e
    · rename_i hk
      obtain ⟨d, hd⟩ := h y List.mem_cons_self hk
      rw [List.lookup_cons] at e
      split at e
      · rename_i hx
        have hx' : x = y.1 := by simpa using hx
        rw [hd] at e
        cases e
        rw [hx']; exact hd
      · exact hc x c e
    · exact hc x c e
theorem cl_keep {env : Env} : ∀ (names : List (Str × NameKind)) (cs : List (Str × Addr)) (x : Str), (∃ c, cs.lookup x = some c) → ∃ c, (names.foldl (clStep env) cs).lookup x = some c
  | [], _, _, h => h
  | y :: r, cs, x, ⟨c, h⟩ => by
    refine cl_keep r (clStep env cs y) x ?_
    unfold clStep
    split
    · rw [List.lookup_cons]
      split
      · exact ⟨_, rfl⟩
      · exact ⟨c, h⟩
    · exact ⟨c, h⟩
theorem cl_has {env : Env} : ∀ (names : List (Str × NameKind)) (cs : List (Str × Addr)) (y : Str × NameKind), y ∈ names → y.2 = .free → ∃ c, (names.foldl (clStep env) cs).lookup y.1 = some c
  | [], _, y, hy, _ => absurd hy (by simp)
  | z :: r, cs, y, hy, hk => by
    rcases List.mem_cons.mp hy with e | e
    · subst e
      refine cl_keep r _ y.1 ?_
      unfold clStep
      rw [if_pos hk, List.lookup_cons]
      simp
    · exact cl_has r _ y e hk
theorem relabel_free {env : Env} : ∀ {names : List (Str × NameKind)} {x : Str}, names.lookup x = some .free →
    (names.map fun (n, k) => if (k == NameKind.free && env.scope.kind == .function && env.kindOf n == some .cell) then (n, NameKind.cell) else (n, k)).lookup x = some .cell ∨
    (names.map fun (n, k) => if (k == NameKind.free && env.scope.kind == .function && env.kindOf n == some .cell) then (n, NameKind.cell) else (n, k)).lookup x = some .free
  | [], _, h => by simp at h
  | (n, k) :: r, x, h => by
    have ih := @relabel_free env r x
    show List.lookup x ((if (k == NameKind.free && env.scope.kind == .function && env.kindOf n == some .cell) = true then (n, NameKind.cell) else (n, k)) :: _) = _ ∨ List.lookup x ((if (k == NameKind.free && env.scope.kind == .function && env.kindOf n == some .cell) = true then (n, NameKind.cell) else (n, k)) :: _) = _
    cases hx : x == n with
    | true =>
      simp only [List.lookup_cons, hx] at h
      cases h
      by_cases hc : (NameKind.free == NameKind.free && env.scope.kind == .function && env.kindOf n == some .cell) = true
      · rw [if_pos hc]; simp only [List.lookup_cons, hx]; exact .inl trivial
      · rw [if_neg hc]; simp only [List.lookup_cons, hx]; exact .inr trivial
    | false =>
      simp only [List.lookup_cons, hx] at h
      by_cases hc : (k == NameKind.free && env.scope.kind == .function && env.kindOf n == some .cell) = true
      · rw [if_pos hc]; simp only [List.lookup_cons, hx]; exact ih h
      · rw [if_neg hc]; simp only [List.lookup_cons, hx]; exact ih h
theorem relabel_of {env : Env} : ∀ {names : List (Str × NameKind)} {x : Str}, (∀ y ∈ names, y.2 ≠ .cell) →
    ((names.map fun (n, k) => if (k == NameKind.free && env.scope.kind == .function && env.kindOf n == some .cell) then (n, NameKind.cell) else (n, k)).lookup x = some .cell ∨
    (names.map fun (n, k) => if (k == NameKind.free && env.scope.kind == .function && env.kindOf n == some .cell) then (n, NameKind.cell) else (n, k)).lookup x = some .free) → ∃ y ∈ names, y.1 = x ∧ y.2 = .free
  | [], _, _, h => by simp at h
  | (n, k) :: r, x, hc0, h => by
    have ih := @relabel_of env r x fun y hy => hc0 y (List.mem_cons_of_mem _ hy)
    have hk : k ≠ .cell := hc0 (n, k) List.mem_cons_self
    cases hx : x == n with
    | true =>
      have hx' : x = n := by simpa using hx
      refine ⟨(n, k), List.mem_cons_self, hx'.symm, ?_⟩
      by_cases hf : k = .free
      · exact hf
      · have e1 : (k == NameKind.free) = false := by simpa using hf
        exfalso
        have h' : List.lookup x ((if (k == NameKind.free && env.scope.kind == .function && env.kindOf n == some .cell) = true then (n, NameKind.cell) else (n, k)) :: _) = some .cell ∨ List.lookup x ((if (k == NameKind.free && env.scope.kind == .function && env.kindOf n == some .cell) = true then (n, NameKind.cell) else (n, k)) :: _) = some .free := h
        simp only [e1, Bool.false_and, Bool.false_eq_true, if_false, List.lookup_cons, hx] at h'
        rcases h' with z | z
        · exact hk (Option.some.inj z)
        · exact hf (Option.some.inj z)
    | false =>
      have h' : List.lookup x ((if (k == NameKind.free && env.scope.kind == .function && env.kindOf n == some .cell) = true then (n, NameKind.cell) else (n, k)) :: _) = some .cell ∨ List.lookup x ((if (k == NameKind.free && env.scope.kind == .function && env.kindOf n == some .cell) = true then (n, NameKind.cell) else (n, k)) :: _) = some .free := h
      by_cases hc : (k == NameKind.free && env.scope.kind == .function && env.kindOf n == some .cell) = true
      · rw [if_pos hc] at h'
        simp only [List.lookup_cons, hx] at h'
        obtain ⟨y, hy, r1, r2⟩ := ih h'
        exact ⟨y, List.mem_cons_of_mem _ hy, r1, r2⟩
      · rw [if_neg hc] at h'
        simp only [List.lookup_cons, hx] at h'
        obtain ⟨y, hy, r1, r2⟩ := ih h'
        exact ⟨y, List.mem_cons_of_mem _ hy, r1, r2⟩

def cxComp (X : Cx) (scope : Scope) (NB : List Str) (C : Addr) (s₂ : Shared) (H : Hp) (fp : List Addr) : Cx :=
  { X with N := NB, s₀ := s₂, H₀ := H, env := compEnvC scope (clOf X.env scope.names) C X.env, outer := X.stack, ex := fp, fn := fun _ => false, pn := [], xe := fun _ _ => False }
def blk (src : List (Option Nat)) (σ : St) : St := src.map fun o => o.bind fun i => (σ[i]?).join
def chk (N : List Str) (scope : Scope) (NB : List Str) (src : List (Option Nat)) : Bool :=
  decide (NB.length = src.length) && (NB.zip src).all fun p => match p.2 with
    | none => true
    | some i => decide (N[i]? = some p.1) && decide (scope.names.lookup p.1 = some .free)
def chkS (scope sc : Scope) : Bool :=
  decide (scope.kind = .function) && scope.names.all fun y => decide (y.2 ≠ .cell) && (decide (y.2 ≠ .local) || decide (scope.names.lookup y.1 = some .local)) &&
    (decide (y.2 ≠ .free) || (decide (sc.names.lookup y.1 = some .cell) || decide (sc.names.lookup y.1 = some .free)))

def PIf (X : Cx) (ifs : List Expr) (t : TT) : Prop :=
  ∀ (pins : List (Addr × Obj)) (s : Shared) (σ : St) (H : Hp) (Q : Bool → Hp → Prop), Inv X pins σ H s → t σ H Q →
    wpAny (model X.prog X.w) X.A (forIn ifs true fun c r => if r = true then do let ok ← isTrue c X.env (eval c X.env); pure (ForInStep.yield ok) else pure (ForInStep.yield r)) (TP X pins σ Q) X.xe s
theorem pif_nil {X : Cx} : PIf X [] (fun _ H Q => Q true H) := fun _ _ _ H _ I h => wpAny_tests_nil ⟨H, I, h⟩
theorem pif_one {X : Cx} {c : Expr} {t : TT} (h : PT X c t) : PIf X [c] t := fun pins s σ H Q I q => wpAny_tests_one (h pins s σ H Q I q)

def CompW (J : It) (g : TG) (tt : TT) (te : TE) (Q : VK) (D : Addr) (σ₀ : St) (H₀ : Hp) : Prop :=
  ∃ W : Nat → Nat → List V → St → Hp → Prop, (∃ m, W 0 m [] σ₀ (upd H₀ D (.lst []))) ∧
    ∀ i m ys σ' H', W i m ys σ' H' →
      ((J.stop i H' ∧ Q (.ref D) H') ∨ (J.go i H' ∧ ∃ M : List V → St → Hp → Prop, (∀ ys' σ3 H3, M ys' σ3 H3 → ∃ m', m' < m ∧ W (i + 1) m' ys' σ3 H3) ∧ ∀ x H2, J.yld i H' x H2 → g x σ' H2 fun σ3 H3 => tt σ3 H3 fun b H4 =>
        if b = true then te σ3 H4 fun v H5 => H5 D = some (.lst ys) ∧ ys.length < sizeLine ∧ M (ys ++ [v]) σ3 (upd H5 D (.lst (ys ++ [v])))
        else M ys σ3 H4))
def tComp (src : List (Option Nat)) (wi : TI) (g : TG) (tt : TT) (te : TE) : TE := fun σ H Q => wi σ H fun J H1 => ∀ D, H1 D = none → CompW J g tt te Q D (blk src σ) H1

section
variable {X : Cx} {elt tg iter : Expr} {ifs : List Expr} {scope sc : Scope} {N NB : List Str} {src : List (Option Nat)} {wi : TI} {g : TG} {tt : TT} {te : TE} {pos : Pos}

theorem chkS_of (h : chkS scope sc = true) : scope.kind = .function ∧ (∀ y ∈ scope.names, y.2 ≠ .cell) ∧ (∀ y ∈ scope.names, y.2 = .local → scope.names.lookup y.1 = some .local) ∧
    ∀ y ∈ scope.names, y.2 = .free → sc.names.lookup y.1 = some .cell ∨ sc.names.lookup y.1 = some .free := by
  unfold chkS at h
  rw [Bool.and_eq_true, decide_eq_true_iff, List.all_eq_true] at h
  obtain ⟨h1, h2⟩ := h
  refine ⟨h1, fun y hy => ?_, fun y hy z => ?_, fun y hy z => ?_⟩
  · have := h2 y hy
    simp only [Bool.and_eq_true, decide_eq_true_iff] at this
    exact this.1.1
  · have := h2 y hy
    simp only [Bool.and_eq_true, Bool.or_eq_true, decide_eq_true_iff] at this
    rcases this.1.2 with q | q
    · exact absurd z q
    · exact q
  · have := h2 y hy
    simp only [Bool.and_eq_true, Bool.or_eq_true, decide_eq_true_iff] at this
    rcases this.2 with q | q
    · exact absurd z q
    · exact q
theorem chk_of (h : chk N scope NB src = true) : NB.length = src.length ∧ ∀ (j i : Nat) (x : Str), NB[j]? = some x → src[j]? = some (some i) → N[i]? = some x ∧ scope.names.lookup x = some .free := by
  unfold chk at h
  rw [Bool.and_eq_true, decide_eq_true_iff, List.all_eq_true] at h
  refine ⟨h.1, fun j i x e1 e2 => ?_⟩
  have hm : (x, some i) ∈ NB.zip src := List.mem_of_getElem? (i := j) (by rw [List.getElem?_zip_eq_some]; exact ⟨e1, e2⟩)
  have := h.2 _ hm
  simp only [Bool.and_eq_true, decide_eq_true_iff] at this
  exact this

theorem comp_core (hS : chkS scope sc = true) (hN : chk N scope NB src = true) (hsc : X.env.scope = sc) (hXN : X.N = N) (hc : X.calm = true)
    (hg : ∀ C s₂ H fp, PG (cxComp X scope NB C s₂ H fp) tg g) (hi : ∀ C s₂ H fp, PIf (cxComp X scope NB C s₂ H fp) ifs tt) (he : ∀ C s₂ H fp, PE (cxComp X scope NB C s₂ H fp) elt te)
    {pins : List (Addr × Obj)} {σ : St} {H2 : Hp} {s2 : Shared} {it : Addr} {fp : List Addr} {tn : Nat → Heap → Prop} {J : It} {Q : VK} {E : Value → Shared → Prop}
    (I2 : Inv X pins σ H2 s2) (T : Turn X.prog X.w X.K tg J fp it tn) (st2 : tn 0 s2.heap) (f2 : ∀ b ∈ fp, FpOk X pins H2 b) (q : ∀ D, H2 D = none → CompW J g tt te Q D (blk src σ) H2)
    {RR : Value → Addr → Result → Shared → Prop}
    (hRR : ∀ (D C : Addr) (s' : Shared) (H' : Hp), Inv X pins σ H' s' → Q (.ref D) H' → (∃ m, s'.heap.Ns C m) → H' C = none → C ≠ X.env.locals → X.s₀.heap.objs.size ≤ C → (∀ x c, X.env.cells.lookup x = some c → c ≠ C) → (∀ p ∈ X.pn ++ pins, p.1 ≠ C) → RR (.ref D) C (.ok .next) s') :
    wpAny (model X.prog X.w) X.A (newList []) (fun acc s₃ => wpAny (model X.prog X.w) X.A (newFunctionEnv scope X.env.globals (clOf X.env scope.names) [] X.env.qual none .none (some X.env)) (fun cenv s₄ =>
      codeAny (model X.prog X.w) X.A (.compStart (.ListComp elt [⟨tg, iter, ifs, 0⟩] scope pos) 0 (.ref it) acc { cenv with scope := relabel scope X.env }) (RR acc cenv.locals) s₄) E s₃) E s2 := by
  obtain ⟨hkind, hcell, hnames, hfree⟩ := chkS_of hS
  obtain ⟨hlen, hsrc⟩ := chk_of hN
  subst hsc hXN
  have hcl0 : ∀ y ∈ scope.names, y.2 = .free → ∃ c, X.env.cells.lookup y.1 = some c := fun y hy z => I2.ok.has y.1 (hfree y hy z)
  have clsub : ∀ x c, (clOf X.env scope.names).lookup x = some c → X.env.cells.lookup x = some c := cl_sub scope.names [] hcl0 (fun x c e => by cases e)
  refine wpAny_newObj_type (wpAny_newFunctionEnv hcell (by intro y hy; simp at hy) (fun h₁ hns₁ hsb₁ => ?_) hkind)
  dsimp only at hns₁ hsb₁ ⊢
  generalize hH3 : s2.heap.push { cls := .type "list", dict := none, data := .seq ([] : List Value).toArray } = H3 at hns₁ hsb₁ ⊢
  have hC : H3.objs.size = s2.heap.objs.size + 1 := by rw [← hH3, Heap.size_push]
  have hDC : s2.heap.objs.size ≠ H3.objs.size := by rw [hC]; exact Nat.ne_of_lt (Nat.lt_succ_self _)
  have old : ∀ b o, s2.heap.get? b = some o → h₁.get? b = some o := fun b o e => by
    have hb := Heap.lt_size e
    exact hsb₁.extBut b o (by rw [hC]; exact Nat.ne_of_lt (Nat.lt_succ_of_lt hb)) (Heap.get?_push_of_some _ (hH3 ▸ Heap.get?_push_of_some _ e))
  have hacc : h₁.get? s2.heap.objs.size = some { cls := .type "list", data := .seq ([] : List Value).toArray } :=
    hsb₁.extBut _ _ hDC (Heap.get?_push_of_some _ (hH3 ▸ Heap.get?_push_size _ rfl))
  have hDn : H2 s2.heap.objs.size = none := I2.hok.fresh (Nat.le_refl _)
  have hCn : H2 H3.objs.size = none := I2.hok.fresh (by rw [hC]; exact Nat.le_succ _)
  have fpl : ∀ b ∈ fp, b < s2.heap.objs.size := fun b hb => by
    obtain ⟨o, e, _⟩ := T.obj _ _ st2 b hb
    exact Heap.lt_size e
  have cellLt : ∀ x c, X.env.cells.lookup x = some c → c < s2.heap.objs.size := fun x c e => by
    obtain ⟨v, z⟩ := I2.cell x c e
    exact z.lt
  have cneC : ∀ x c, X.env.cells.lookup x = some c → c ≠ H3.objs.size := fun x c e => by
    rw [hC]
    exact Nat.ne_of_lt (Nat.lt_succ_of_lt (cellLt x c e))
  let Y : Cx := cxComp X scope NB H3.objs.size s2 H2 fp
  have okY : Y.Ok := {
    mod := I2.ok.mod
    kind := hkind
    glob := I2.ok.glob
    blt := I2.ok.blt
    above := by show s2.heap.objs.size ≤ H3.objs.size; rw [hC]; exact Nat.le_succ _
    inj := fun x y c e1 e2 => I2.ok.inj x y c (clsub x c e1) (clsub y c e2)
    has := fun x hx => by
      obtain ⟨y, hy, rfl, hyf⟩ := relabel_of (env := X.env) hcell hx
      exact cl_has scope.names [] y hy hyf
    cab := fun x c z _ => by cases z
    hd := I2.ok.hd
    frames := I2.ok.frames
    stk := .inl rfl
    exf := fun b hb => ⟨by show b ≠ H3.objs.size; rw [hC]; exact Nat.ne_of_lt (Nat.lt_succ_of_lt (fpl b hb)), fun x c e => (f2 b hb).2.2.2.2.1 x c (clsub x c e)⟩
    bs := I2.bs
    bsz := Nat.le_trans I2.ok.bsz I2.sz
    noex := fun b o e hb => by
      rcases (f2 b hb).2.2.2.1 with z | z
      · exact I2.ok.noex b o e z
      · exact absurd (Nat.lt_of_lt_of_le (Heap.lt_size (I2.ok.bs b o e).1) z) (Nat.lt_irrefl _)
    exfs := fun b hb z => by
      rcases List.mem_cons.mp (I2.stkSub b z) with y | y
      · exact (f2 b hb).2.1 y
      · exact (f2 b hb).2.2.1 y
    funs := I2.stack
    frf := I2.stkFree }
  have IY0 : Inv Y [] (blk src σ) (upd H2 s2.heap.objs.size (.lst [])) { s2 with heap := h₁, toks := s2.toks + ([] : List (Str × Value)).length } := {
    ok := okY
    os := rfl
    bare := I2.bare
    base := Un.laid old (Nat.le_refl _) hDn
    loc := by
      refine ⟨_, hns₁, fun j x v e1 e2 e3 => ?_⟩
      have e2' : (src.map fun o => o.bind fun i => (σ[i]?).join)[j]? = some (some v) := e2
      rw [List.getElem?_map] at e2'
      cases hj : src[j]? with
      | none => rw [hj] at e2'; cases e2'
      | some o =>
        rw [hj] at e2'
        have e4 : (o.bind fun i => (σ[i]?).join) = some v := Option.some.inj e2'
        cases o with
        | none => cases e4
        | some i =>
          have e5 : (σ[i]?).join = some v := e4
          obtain ⟨hNi, hlk⟩ := hsrc j i x e1 hj
          have e6 : σ[i]? = some (some v) := by
            cases hs : σ[i]? with
            | none => rw [hs] at e5; cases e5
            | some w' => rw [hs] at e5; have : w' = some v := e5; rw [this]
          obtain ⟨m, hn, hl⟩ := I2.loc
          have hkx := hfree (x, .free) (PySem.mem_of_lookup hlk) rfl
          obtain ⟨u, ru, lk⟩ := hl i x v hNi e6 (hkx.elim (fun z => .inr (.inl z)) fun z => .inr (.inr z))
          refine ⟨u, ru, ?_⟩
          rcases lk with ⟨k, _⟩ | ⟨k, c, ec, ic⟩
          · exfalso
            have k' : X.env.scope.names.lookup x = some .local := k
            rcases hkx with z | z
            · rw [k'] at z; cases z
            · rw [k'] at z; cases z
          · obtain ⟨c', hc'⟩ := cl_has (env := X.env) scope.names [] (x, .free) (PySem.mem_of_lookup hlk) rfl
            have hcc : c' = c := Option.some.inj ((clsub x c' hc').symm.trans ec)
            subst hcc
            refine .inr ⟨relabel_free (env := X.env) hlk, c', hc', ?_⟩
            obtain ⟨o, ho, hd⟩ := ic
            exact ⟨o, old c' o ho, hd⟩
    cell := fun x c e => by
      obtain ⟨v, o, ho, hd⟩ := I2.cell x c (clsub x c e)
      exact ⟨v, o, old c o ho, hd⟩
    free := by
      show upd H2 s2.heap.objs.size (.lst []) H3.objs.size = none
      rw [upd_ne (Ne.symm hDC)]; exact hCn
    freeC := fun x c e => by
      have := cellLt x c (clsub x c e)
      rw [upd_ne (Nat.ne_of_lt this)]
      exact I2.freeC x c (clsub x c e)
    pin := fun p hp => absurd (show p ∈ ([] : List (Addr × Obj)) from hp) (by simp)
    hok := I2.hok.laid old (Nat.le_refl _) ⟨Nat.zero_le _, [], 0, .nil, hacc⟩
    len := by show (src.map _).length = NB.length; rw [List.length_map]; exact hlen.symm }
  have statY : ∀ {H' : Hp}, (∀ b ∈ fp, H' b = none) → ∀ b ∈ fp, FpOk Y [] H' b := fun hn b hb =>
    ⟨hn b hb, (okY.exf b hb).1, okY.exfs b hb, .inl hb, (okY.exf b hb).2, fun p hp => absurd (show p ∈ ([] : List (Addr × Obj)) from hp) (by simp)⟩
  have back : ∀ {pl : List (Addr × Obj)} {σ' : St} {H' : Hp} {s' : Shared}, Inv Y pl σ' H' s' → Inv X pins σ H' s' := fun {pl σ' H' s'} IY =>
    I2.call' (ch := fp) IY.os IY.base IY.hok IY.bare fun b hb => ⟨(f2 b hb).2.2.2.1, (f2 b hb).2.1, (f2 b hb).2.2.2.2.1, (f2 b hb).2.2.2.2.2⟩
  obtain ⟨W, ⟨m0, w0⟩, turn⟩ := q s2.heap.objs.size hDn
  have loop : ∀ s₃ : Shared, s₃ = { s2 with heap := h₁, toks := s2.toks + ([] : List (Str × Value)).length } →
      codeAny (model X.prog X.w) X.A (.compLoop (.ListComp elt [⟨tg, iter, ifs, 0⟩] scope pos) 0 (.ref it) (.ref s2.heap.objs.size) Y.env) (RR (.ref s2.heap.objs.size) H3.objs.size) s₃ := by
    rintro s₃ rfl
    refine codeAny_loop rfl (fun n s' => ∃ i ys σ' H', Inv Y [] σ' H' s' ∧ tn i s'.heap ∧ (∀ b ∈ fp, H' b = none) ∧ W i n ys σ' H') (fun n s3 hI => ?_) m0
      ⟨0, [], _, _, IY0, T.keep _ _ _ st2 (fun b _ o e => old b o e), fun b hb => by rw [upd_ne (Nat.ne_of_lt (fpl b hb))]; exact (f2 b hb).1, w0⟩
    obtain ⟨i, ys, σ3, H4, I3, st3, fr3, w3⟩ := hI
    show wpAny _ X.A ((compTurn (.ListComp elt [⟨tg, iter, ifs, 0⟩] scope pos) 0 (.ref it) (.ref s2.heap.objs.size) Y.env).onRaise (fun x => do noteFrame x Y.env; theTreesLotGoes x)) _ _ s3
    refine wpAny_noted ?_
    rw [compTurn_list]
    rcases turn i n ys σ3 H4 w3 with ⟨stop, qn⟩ | ⟨go, M, hM, step⟩
    · refine wpAny_bind (wpAny_standAt (wpAny_bind (thn (T.done Y rfl rfl rfl hc i [] s3 σ3 H4 _ I3 (statY fr3) st3 stop) fun r s4 ⟨hr, I4⟩ => ?_)))
      subst hr
      refine wpAny_pure ?_
      obtain ⟨m, hm, _⟩ := I4.loc
      refine hRR _ _ s4 H4 (back I4) qn ⟨m, hm⟩ I4.free ?_ ?_ cneC fun p hp => ?_
      · show H3.objs.size ≠ X.env.locals
        rw [hC]
        exact Nat.ne_of_gt (Nat.lt_succ_of_lt I2.lt)
      · rw [hC]
        exact Nat.le_succ_of_le I2.sz
      · rw [hC]
        exact Nat.ne_of_lt (Nat.lt_succ_of_lt (Heap.lt_size (I2.pin p hp).1))
    · refine wpAny_bind (wpAny_standAt (wpAny_bind (thn (T.item Y rfl rfl rfl hc i [] s3 σ3 H4 _ I3 (statY fr3) st3 go) fun r s4 ⟨u, hr, h4⟩ => ?_)))
      subst hr
      refine wpAny_bind (thn h4 fun _ s5 ⟨x, H5, I5, r5, y5, st5, fr5⟩ => ?_)
      have I5' := I5.pinned (statY fr5) (T.obj _ _ st5)
      have again : ∀ {σ7 : St} {H7 : Hp} {s7 : Shared} {ys' : List V}, Inv Y ([] ++ pinsAt fp s5.heap) σ7 H7 s7 → (∃ m', m' < n ∧ W (i + 1) m' ys' σ7 H7) →
          ∃ m, m < n ∧ ∃ i ys σ' H', Inv Y [] σ' H' s7 ∧ tn i s7.heap ∧ (∀ b ∈ fp, H' b = none) ∧ W i m ys σ' H' := fun {σ7 H7 s7 ys'} I7 ⟨m', hm, w7⟩ => by
        refine ⟨m', hm, i + 1, ys', σ7, H7, I7.unpinned, T.keep _ _ _ st5 fun b hb o e => (I7.pin (b, o) (List.mem_append_right _ (List.mem_append_right _ (mem_pinsAt hb e)))).1, fun b hb => ?_, w7⟩
        obtain ⟨o, e, d⟩ := T.obj _ _ st5 b hb
        exact (I7.pin (b, o) (List.mem_append_right _ (List.mem_append_right _ (mem_pinsAt hb e)))).2.1
      refine wpAny_bind (wpAny_mono (hg H3.objs.size s2 H2 fp _ s5 σ3 H5 x u _ I5' r5 (step x H5 y5)) (fun _ s6 ⟨σ6, H6, I6, q6⟩ => ?_) fun _ _ z => z.elim)
      refine wpAny_bind (wpAny_mono (hi H3.objs.size s2 H2 fp _ s6 σ6 H6 _ I6 q6) (fun ok s7 ⟨H7, I7, q7⟩ => ?_) fun _ _ z => z.elim)
      cases ok with
      | false =>
        exact wpAny_pure ⟨rfl, again I7 (hM _ _ _ (by simpa using q7))⟩
      | true =>
        refine wpAny_bind (wpAny_bind (wpAny_mono (he H3.objs.size s2 H2 fp _ s7 σ6 H7 _ I7 (by simpa using q7)) (fun v s8 h8 => ?_) fun _ _ z => z.elim))
        obtain ⟨y, H8, I8, r8, hD8, hz8, q8⟩ := h8
        refine wpAny_bind (wpAny_mono (mt_append (X := Y) _ s8 σ6 H8 (.ref s2.heap.objs.size) [y] (.ref s2.heap.objs.size) [v] (fun _ H9 => H9 = upd H8 s2.heap.objs.size (.lst (ys ++ [y]))) I8 rfl (.cons r8 .nil) ⟨_, ys, y, rfl, rfl, hD8, hz8, rfl⟩)
          (fun _ s9 ⟨_, H9, I9, _, e9⟩ => ?_) fun _ _ z => z.elim)
        subst e9
        exact wpAny_pure (wpAny_pure ⟨rfl, again I9 (hM _ _ _ q8)⟩)
  exact codeAny_compStart_list (loop _ rfl) (T.self _ 0 _ _ _ (T.keep _ _ _ st2 fun b _ o e => old b o e) (loop _ rfl))

theorem pe_comp (N : List Str) (NB : List Str) (src : List (Option Nat)) (sc : Scope) (hc : X.calm = true) (hit : PI X tg iter wi)
    (hg : ∀ C s₂ H fp, PG (cxComp X scope NB C s₂ H fp) tg g) (hi : ∀ C s₂ H fp, PIf (cxComp X scope NB C s₂ H fp) ifs tt) (he : ∀ C s₂ H fp, PE (cxComp X scope NB C s₂ H fp) elt te)
    (hS : chkS scope sc = true := by decide +kernel) (hN : chk N scope NB src = true := by decide +kernel) (hsc : X.env.scope = sc := by rfl) (hXN : X.N = N := by rfl)
    (hs : ∀ x, foldedSetIterable iter X.env x = pure x := by intro _; rfl) : PE X (.ListComp elt [⟨tg, iter, ifs, 0⟩] scope pos) (tComp src wi g tt te) := by
  intro pins s σ H Q I h
  obtain ⟨hkind, hcell, hnames, hfree⟩ := chkS_of hS
  rw [eval_ListComp]
  refine wpAny_comprehension_free (use := none) rfl hs (closure_is fun y hy z => I.ok.has y.1 (by have := hfree y hy z; rw [← hsc] at this; exact this)) hkind hnames (thn (hit pins s σ H _ I h) fun v s1 h1 => thn h1 fun itv s2 h2 => ?_)
  obtain ⟨it, fp, tn, J, H2, rfl, I2, T, st2, f2, q⟩ := h2
  refine comp_core hS hN hsc hXN hc hg hi he I2 T st2 f2 q (RR := fun acc C => compPost (model X.prog X.w) X.A X.xe none (EP X pins σ Q) acc C) ?_
  intro D C s' H' I' q' hm hC h1 h2 h3 h4
  obtain ⟨m, hm⟩ := hm
  exact ⟨m, hm, fun h' hs' => ⟨.ref D, H', I'.turned (t' := s'.toks) (fun b o hb e => (hs'.2 b hb).trans e) hC (Ne.symm h1 |>.symm) (.inr h2) h3 h4, rfl, q'⟩⟩
theorem ps_setC {i : Nat} {y : Str} {py spos : Pos} (N : List Str) (NB : List Str) (src : List (Option Nat)) (sc : Scope) (hc : X.calm = true) (hNd : X.N.Nodup) (hyi : X.N[i]? = some y) (hy : Loc X.env.scope y) (hit : PI X tg iter wi)
    (hg : ∀ C s₂ H fp, PG (cxComp X scope NB C s₂ H fp) tg g) (hi : ∀ C s₂ H fp, PIf (cxComp X scope NB C s₂ H fp) ifs tt) (he : ∀ C s₂ H fp, PE (cxComp X scope NB C s₂ H fp) elt te)
    (hsw : swapsWith (.ListComp elt [⟨tg, iter, ifs, 0⟩] scope pos) (some (.Name y py)) spos.line X.env = pure true := by rfl)
    (hf : X.fn y = true ∨ X.env.scope.names.lookup y = some .local := by first | exact .inl rfl | exact .inr rfl | assumption)
    (hS : chkS scope sc = true := by decide +kernel) (hN : chk N scope NB src = true := by decide +kernel) (hsc : X.env.scope = sc := by rfl) (hXN : X.N = N := by rfl)
    (hs : ∀ x, foldedSetIterable iter X.env x = pure x := by intro _; rfl) : PS X (.Assign [.Name y py] (.ListComp elt [⟨tg, iter, ifs, 0⟩] scope pos) spos) (tAsg (tComp src wi g tt te) (gName i)) := by
  intro pins s σ H D I h
  obtain ⟨hkind, hcell, hnames, hfree⟩ := chkS_of hS
  rw [exec_Assign_Name_used _ _ _ _ hsw]
  refine wpAny_bind (wpAny_standAt (wpAny_bind ?_))
  show wpAny _ X.A (do let _ ← comprehension (.ListComp elt [⟨tg, iter, ifs, 0⟩] scope pos) scope X.env _ (newList []) false (eval iter X.env) (some (assign (.Name y py) X.env))) _ _ s
  refine wpAny_bind (wpAny_mono (wpAny_comprehension_free (use := some (assign (.Name y py) X.env)) (Q := fun _ s' => SP X pins D .next s') rfl hs
    (closure_is fun z hz k => I.ok.has z.1 (by have := hfree z hz k; rw [← hsc] at this; exact this)) hkind hnames (thn (hit pins s σ H _ I h) fun v s1 h1 => thn h1 fun itv s2 h2 => ?_)) (fun _ s' hq => wpAny_pure (wpAny_pure hq)) fun _ _ e => e)
  obtain ⟨it, fp, tn, J, H2, rfl, I2, T, st2, f2, q⟩ := h2
  refine comp_core hS hN hsc hXN hc hg hi he I2 T st2 f2 q (RR := fun acc C => compPost (model X.prog X.w) X.A X.xe (some (assign (.Name y py) X.env)) (fun _ s' => SP X pins D .next s') acc C) ?_
  intro Dd C s' H' I' q' hm hC h1 h2 h3 h4
  obtain ⟨m, hm⟩ := hm
  show wpAny _ X.A (assign (.Name y py) X.env (.ref Dd)) _ _ _
  refine wpAny_assign_Name (store_ok2 (v := .ref Dd) I' hNd hyi hy rfl (fun s3 I3 hz => ?_) hf)
  obtain ⟨a, hsb, ha⟩ := hz
  have hCa : C ≠ a := by
    rcases ha with z | z
    · rw [z]; exact h1
    · exact Ne.symm (h3 _ _ z)
  refine ⟨m, hm.sameBut hsb hCa, fun h' hs' => ?_⟩
  exact ⟨_, H', I3.turned (t' := s3.toks) (fun b o hb e => (hs'.2 b hb).trans e) hC h1 (.inr h2) h3 h4, q'⟩
end
end L3
namespace L3
open PySem PySem.Spec PyProof.Rows L2
section
variable {K : PySem.W.Frag} {a : Addr} {xs : List V} {g : TG} {tt : TT} {te : TE} {Q : VK} {D : Addr} {σ : St} {H : Hp}
theorem comp_list (Pv : Nat → List V → St → Hp → Prop) (h0 : Pv 0 [] σ (upd H D (.lst []))) (hl : ∀ i ys σ H, i ≤ xs.length → Pv i ys σ H → SqL K H a xs)
    (hs : ∀ i x ys σ H, xs[i]? = some x → Pv i ys σ H → g x σ H fun σ3 H3 => tt σ3 H3 fun b H4 => if b = true then te σ3 H4 fun v H5 => H5 D = some (.lst ys) ∧ ys.length < sizeLine ∧ Pv (i + 1) (ys ++ [v]) σ3 (upd H5 D (.lst (ys ++ [v]))) else Pv (i + 1) ys σ3 H4)
    (hd : ∀ ys σ H, Pv xs.length ys σ H → Q (.ref D) H) : CompW (Itl K a) g tt te Q D σ H := by
  refine ⟨fun i m ys σ H => m = xs.length - i ∧ i ≤ xs.length ∧ Pv i ys σ H, ⟨xs.length, by simp, Nat.zero_le _, h0⟩, ?_⟩
  rintro i m ys σ H ⟨rfl, hi, p⟩
  have q := hl i ys σ H hi p
  by_cases hlt : i < xs.length
  · refine .inr ⟨⟨xs, xs[i], q, by simp [hlt]⟩, Pv (i + 1), fun ys' σ' H' p' => ⟨xs.length - (i + 1), by omega, rfl, hlt, p'⟩, fun x H' y => ?_⟩
    obtain ⟨e, y⟩ := y
    subst e
    exact hs i x ys σ _ (y xs q) p
  · have e : i = xs.length := by omega
    subst e
    exact .inl ⟨⟨xs, q, Nat.le_refl _⟩, hd ys σ H p⟩
theorem comp_range {lo : Int} {n : Nat} (Pv : Nat → List V → St → Hp → Prop) (h0 : Pv 0 [] σ (upd H D (.lst [])))
    (hs : ∀ i ys σ H, i < n → Pv i ys σ H → g (.int (lo + i)) σ H fun σ3 H3 => tt σ3 H3 fun b H4 => if b = true then te σ3 H4 fun v H5 => H5 D = some (.lst ys) ∧ ys.length < sizeLine ∧ Pv (i + 1) (ys ++ [v]) σ3 (upd H5 D (.lst (ys ++ [v]))) else Pv (i + 1) ys σ3 H4)
    (hd : ∀ ys σ H, Pv n ys σ H → Q (.ref D) H) : CompW (Itr lo n) g tt te Q D σ H := by
  refine ⟨fun i m ys σ H => m = n - i ∧ i ≤ n ∧ Pv i ys σ H, ⟨n, by simp, Nat.zero_le _, h0⟩, ?_⟩
  rintro i m ys σ H ⟨rfl, hi, p⟩
  by_cases hlt : i < n
  · refine .inr ⟨hlt, Pv (i + 1), fun ys' σ' H' p' => ⟨n - (i + 1), by omega, rfl, hlt, p'⟩, fun x H' y => ?_⟩
    obtain ⟨e, y⟩ := y
    subst e y
    exact hs i ys σ _ hlt p
  · have e : i = n := by omega
    subst e
    exact .inl ⟨Nat.le_refl _, hd ys σ H p⟩
theorem comp_enum (Pv : Nat → List V → St → Hp → Prop) (h0 : Pv 0 [] σ (upd H D (.lst []))) (hl : ∀ i ys σ H, i ≤ xs.length → Pv i ys σ H → SqL K H a xs)
    (hs : ∀ i x ys σ H p, xs[i]? = some x → Pv i ys σ H → H p = none → g (.ref p) σ (upd H p (.tup [.int (i : Int), x])) fun σ3 H3 => tt σ3 H3 fun b H4 => if b = true then te σ3 H4 fun v H5 => H5 D = some (.lst ys) ∧ ys.length < sizeLine ∧ Pv (i + 1) (ys ++ [v]) σ3 (upd H5 D (.lst (ys ++ [v]))) else Pv (i + 1) ys σ3 H4)
    (hd : ∀ ys σ H, Pv xs.length ys σ H → Q (.ref D) H) : CompW (Ite K a) g tt te Q D σ H := by
  refine ⟨fun i m ys σ H => m = xs.length - i ∧ i ≤ xs.length ∧ Pv i ys σ H, ⟨xs.length, by simp, Nat.zero_le _, h0⟩, ?_⟩
  rintro i m ys σ H ⟨rfl, hi, p⟩
  have q := hl i ys σ H hi p
  by_cases hlt : i < xs.length
  · refine .inr ⟨⟨xs, xs[i], q, by simp [hlt]⟩, Pv (i + 1), fun ys' σ' H' p' => ⟨xs.length - (i + 1), by omega, rfl, hlt, p'⟩, fun x H' y => ?_⟩
    obtain ⟨pp, v, rfl, hn, rfl, y⟩ := y
    exact hs i v ys σ _ pp (y xs q) p hn
  · have e : i = xs.length := by omega
    subst e
    exact .inl ⟨⟨xs, q, Nat.le_refl _⟩, hd ys σ H p⟩
end
end L3

set_option Elab.async false
set_option linter.all false
set_option maxRecDepth 100000
set_option maxHeartbeats 4000000
namespace L3
open PySem PySem.Spec PyProof.Rows L2

section
variable {X : Cx}
end
theorem iteB {c : Bool} {A B : Prop} (hc : c = true) (h : A) : if c = true then A else B := by rw [if_pos hc]; exact h
theorem iteC {c : Bool} {A B : Prop} (hc : c = false) (h : B) : if c = true then A else B := by rw [if_neg (by rw [hc]; decide)]; exact h
theorem same_upd {H H' : Hp} {p : Addr} {o : HO} (e : Same H H') (h : H p = none) : Same H (upd H' p o) := fun b u z => by rw [upd_ne (ne_of_none z h)]; exact e b u z
end L3

set_option Elab.async false
set_option linter.all false
set_option maxRecDepth 100000
set_option maxHeartbeats 4000000
namespace L3
open PySem PySem.Spec PyProof.Rows L2

section
variable {prog : Program} {w : World} {A : Around} {E : Value → Shared → Prop} {s : Shared} {I : Addr}
end
section
variable {prog : Program} {w : World} {A : Around} {E : Value → Shared → Prop} {s : Shared} {l I : Addr} {items : Array Value}
end
section
variable {X : Cx}
def seqI (lo : Int) (n : Nat) : List Int := (List.range n).map fun (i : Nat) => lo + (i : Int)
theorem seqI_length (lo : Int) (n : Nat) : (seqI lo n).length = n := by unfold seqI; rw [List.length_map, List.length_range]
theorem items_range {lo : Int} {n : Nat} {acc : Array Value} (h : ItemsOf (fun i v => ∃ t, v = Value.int (lo + (i : Int) * 1) t) acc n) : Vals ((seqI lo n).map V.int) acc.toList := by
  obtain ⟨h1, h2⟩ := h
  have key : ∀ (us : List Value) (k : Nat) (lo : Int), us.length = k → (∀ (j : Nat) v, us[j]? = some v → ∃ t, v = Value.int (lo + (j : Int)) t) → Vals ((seqI lo k).map V.int) us := fun us => by
    induction us with
    | nil => intro k lo hk _; subst hk; exact .nil
    | cons u r ih =>
      intro k lo hk hv
      subst hk
      have e : seqI lo (r.length + 1) = lo :: seqI (lo + 1) r.length := by
        unfold seqI
        rw [List.range_succ_eq_map, List.map_cons, List.map_map]
        congr 1
        · omega
        · refine List.map_congr_left fun i _ => ?_
          show lo + ((i + 1 : Nat) : Int) = lo + 1 + (i : Int)
          omega
      show Vals ((seqI lo (r.length + 1)).map V.int) _
      rw [e, List.map_cons]
      obtain ⟨t, rfl⟩ := hv 0 u rfl
      refine .cons ⟨t, by simp⟩ (ih _ (lo + 1) rfl fun j v hj => ?_)
      obtain ⟨t', e'⟩ := hv (j + 1) v hj
      refine ⟨t', e'.trans ?_⟩
      congr 1
      omega
  refine key acc.toList n lo (by rw [Array.length_toList]; exact h1) fun j v hj => ?_
  obtain ⟨t, e⟩ := h2 j v (by rw [← Array.getElem?_toList]; exact hj)
  exact ⟨t, by rw [e, Int.mul_one]⟩
def tListRng (ta : TA) : TE := fun σ H Q => ta σ H fun vs H1 => ∃ lo hi : Int, vs = [.int lo, .int hi] ∧ (-(2 ^ 20) ≤ lo ∧ lo ≤ 2 ^ 20 ∧ -(2 ^ 20) ≤ hi ∧ hi ≤ 2 ^ 20) ∧ ∀ l, H1 l = none → Q (.ref l) (upd H1 l (.lst ((seqI lo (hi - lo).toNat).map V.int)))
theorem pe_listRng {e e' : Expr} {ta : TA} {p p2 pos pos2 : Pos} (hc : X.calm = true) (hg : Gl X "list") (hm : X.mg "list" = none) (hg2 : Gl X "range") (hm2 : X.mg "range" = none) (ha : PA X [e, e'] ta)
    (hs : starEach [.Call (.Name "range" p2) [e, e'] [] pos2] X.env = [(false, eval (.Call (.Name "range" p2) [e, e'] [] pos2) X.env)] := by rfl) (hs2 : starEach [e, e'] X.env = (false, eval e X.env) :: starEach [e'] X.env := by rfl) (hs3 : (backTo pos2 (starEach [e'] X.env)).any (·.1) = false := by rfl) :
    PE X (.Call (.Name "list" p) [.Call (.Name "range" p2) [e, e'] [] pos2] [] pos) (tListRng ta) := by
  intro pins s σ H Q I h
  refine wpAny_Call_Name_kw (ld_blt I hg hm boot_list ?_ (by decide) (by decide))
  refine PyProof.Rows.callWith_type1 ?_ hs rfl
  rw [hs]
  show wpAny _ _ (spliced ((false, eval (.Call (.Name "range" p2) [e, e'] [] pos2) X.env) :: backTo pos (starEach [] X.env))) _ _ s
  refine Calls.spliced_cons ?_
  refine wpAny_Call_Name_kw (ld_blt I hg2 hm2 boot_range ?_ (by decide) (by decide))
  refine PyProof.Rows.callWith_type1 (thn (ha pos2 pins s σ H _ I h) fun us s1 h1 => ?_) hs2 hs3
  obtain ⟨vs, H1, I1, r1, lo, hi, rfl, ⟨b1, b2, b3, b4⟩, q⟩ := h1
  obtain ⟨u, v, rfl, ⟨t, rfl⟩, ⟨t', rfl⟩⟩ := vals2 r1
  refine call_range_2 ?_
  refine Calls.spliced_nil ?_
  have hrs : Builtin.Range.rangeSize lo hi 1 = (((hi - lo).toNat : Nat) : Int) := by rw [rangeSize_one]; split <;> omega
  refine call_list_range (s := { s1 with heap := s1.heap.push { cls := .type "range", data := .fields #[.int lo t, .int hi t', .int 1 s1.toks] }, toks := s1.toks + 1 }) (I1.ok.hd hc) (IsRange.new ..) (small_one (by omega) (by omega) (by omega) (by omega)) hrs (by omega) fun h' tk acc c hk hS hacc => ?_
  have hsz : (s1.heap.push { cls := .type "range", data := .fields #[.int lo t, .int hi t', .int 1 s1.toks] }).objs.size = s1.heap.objs.size + 1 := Heap.size_push ..
  have rv := items_range hacc
  have hn : H1 (s1.heap.push { cls := .type "range", data := .fields #[.int lo t, .int hi t', .int 1 s1.toks] }).objs.size = none := I1.hok.fresh (by rw [hsz]; exact Nat.le_succ _)
  have I4 : Inv X pins σ (upd H1 (s1.heap.push { cls := .type "range", data := .fields #[.int lo t, .int hi t', .int 1 s1.toks] }).objs.size (.lst ((seqI lo (hi - lo).toNat).map V.int))) { s1 with heap := h', toks := tk } :=
    I1.laid (t' := tk) (fun b o z => hk b o (Heap.get?_push_of_some _ z)) (by rw [hsz]; exact Nat.le_succ _)
      (show ObjOk X.prog X.w _ _ _ (.lst ((seqI lo (hi - lo).toNat).map V.int)) from ⟨by rw [List.length_map, seqI_length, sizeLine_eq]; omega, acc.toList, c, rv, by rw [Array.toArray_toList]; exact hS⟩)
  exact ⟨.ref _, _, I4, rfl, q _ hn⟩
end
end L3

set_option Elab.async false
set_option linter.all false
set_option maxRecDepth 100000
set_option maxHeartbeats 4000000
namespace L3
open PySem PySem.Spec PyProof.Rows L2
section
variable {X : Cx} {K : PySem.W.Frag}
theorem pg_tupK {es : List Expr} {k : Nat} {t : TGs} {n : Nat} {pos : Pos} (hK : X.K = K) (hc : X.calm = true) (h : PGs X es t) (hn : (assignEach es X.env).length = n := by rfl) (hst : (assignEach es X.env).findIdx? (·.1) = none := by rfl) : PG X (.Tuple es k pos) (gTup K n t) := by
  subst hK; exact pg_tup hc h hn hst
theorem op_notIn_seqK (hK : X.K = K) : OpR X (compareOp .NotIn) (rIn K true) := by subst hK; exact op_notIn_seq
end
end L3

set_option Elab.async false
set_option linter.all false
set_option maxRecDepth 100000
set_option maxHeartbeats 4000000
namespace L3
open PySem PySem.Spec PyProof.Rows L2

theorem objOk_there {P : Program} {w : World} {H : Hp} {h : Heap} {a : Addr} {o : HO} (x : ObjOk P w H h a o) : ∃ u, h.get? a = some u := by
  cases o with
  | lst xs => obtain ⟨_, _, _, _, e⟩ := x; exact ⟨_, e⟩
  | tup xs => obtain ⟨_, _, _, p⟩ := x; obtain ⟨o, e, _⟩ := p; exact ⟨_, e⟩
  | dK kvs => obtain ⟨_, _, _, _, o, _, _, e, _⟩ := x; exact ⟨_, e⟩
  | dT kvs => obtain ⟨_, _, _, _, o, _, _, e, _⟩ := x; exact ⟨_, e⟩
  | set S n => obtain ⟨o, _, _, _, e, _⟩ := x; exact ⟨_, e⟩
  | ins C dx fs => obtain ⟨_, _, _, e, _⟩ := x; exact ⟨_, e⟩
  | own y => exact x
  | xd fs => obtain ⟨_, ⟨_, _, _, e, _⟩, _⟩ := x; exact ⟨_, e⟩
  | rng lo hi => obtain ⟨_, _, _, e⟩ := x; exact ⟨_, e⟩
  | frz ob u => obtain ⟨e, _⟩ := x; exact ⟨_, e⟩
  | tbl ps => exact ⟨_, (show h.get? a = some _ from x)⟩
  | met f y => exact ⟨_, (show h.get? a = some _ from x)⟩
  | ext φ => obtain ⟨_, e, _⟩ := x; exact e

structure Fly (P : Program) (w : World) (outer : List Env) (H : Hp) (s : Shared) (H' : Hp) (a C : Addr) (s' : Shared) : Prop where
  os : s'.os = s.os
  bare : AllBare s'.gens
  un : Un (frs outer) [] H H' s.heap s'.heap
  hok : HOk P w H' s'.heap
  fly : ∃ B a0, Heap.FlyingW B outer a (.ref C) a0 s'.heap ∧ (∀ b o, H' b = some o → ∃ u, B.get? b = some u) ∧ (∀ b o, s.heap.get? b = some o → b ∉ frs outer → ∃ u, B.get? b = some u)
def CX1 (P : Program) (w : World) : CXT := fun outer H s E e s' => ∃ a C H', e = .ref a ∧ Fly P w outer H s H' a C s' ∧ E (.ref C) none H'

theorem fly_move {P : Program} {w : World} {fs : List Addr} {H H' : Hp} {h h1 h2 B : Heap} (un : Un fs [] H H' h h1) (hok : HOk P w H' h1) (k1 : B.StaysIn h1) (hl : ∀ b ∈ fs, ∃ o, h1.get? b = some o ∧ ∀ vs, o.data ≠ .fields vs)
    (c1 : ∀ b o, H' b = some o → ∃ u, B.get? b = some u) (c2 : ∀ b o, h.get? b = some o → b ∉ fs → ∃ u, B.get? b = some u) (k2 : B.StaysIn h2) (sm : h1.UpToSlots h2) : Un fs [] H H' h h2 ∧ HOk P w H' h2 := by
  refine ⟨⟨fun b o q n hb hx => ?_, fun b o q n hb hx => ?_, un.free, fun b o q hx => ?_, un.tups, un.frzs, un.tbls⟩, fun b o e => ?_⟩
  · obtain ⟨u, hu⟩ := c2 b o q hb
    have e1 := un.keep b o q n hb hx
    have e2 := k1 b u hu
    rw [e1] at e2
    cases e2
    exact k2 b o hu
  · obtain ⟨sl, e1⟩ := un.slot b o q n hb hx
    obtain ⟨o', e', nf⟩ := hl b hb
    rw [e1] at e'
    cases e'
    obtain ⟨sl2, e2⟩ := sm b _ e1 nf
    exact ⟨sl2, e2⟩
  · by_cases hb : b ∈ fs
    · obtain ⟨o', e', nf⟩ := hl b hb
      obtain ⟨sl2, e2⟩ := sm b _ e' nf
      exact ⟨_, e2⟩
    · obtain ⟨u, hu⟩ := c2 b o q hb
      exact ⟨u, k2 b u hu⟩
  · have same : ∀ c v u, H' c = some u → h1.get? c = some v → h2.get? c = some v := fun c v u hc q => by
      obtain ⟨z, hz⟩ := c1 c u hc
      have e2 := k1 c z hz
      rw [q] at e2
      cases e2
      exact k2 c v hz
    refine (hok b o e).stay (fun c v hc q => ?_) (fun _ z => z) (fun _ _ z => z)
    rcases hc with z | z
    · exact same c v o (by rw [z]; exact e) q
    · exact same c v _ z q

section
variable {P : Program} {w : World} {K : PySem.W.Frag} {mg : Str → Option Value} {base : Heap} {N : List Str} {qual : Str} {scope : Scope} {f : Addr} {cd : Value} {A : Around} {outer : List Env} {s : Shared} {H : Hp} {E : XK}

theorem fly_leave {pins : List (Addr × Obj)} {σ : St} {H1 H' : Hp} {s1 s' : Shared} {a C : Addr} {a0 : Value} {B h2 : Heap} (I : Inv (cxOf (CX1 P w) P w K mg base N qual scope f cd A outer s H E) pins σ H1 s1)
    (ho : s'.os = s1.os) (hb : AllBare s'.gens) (un : Un (frs (envOfC qual scope s.heap.objs.size f cd :: outer)) [] H1 H' s1.heap h2) (hok : HOk P w H' h2)
    (fly : Heap.FlyingW B outer a (.ref C) a0 h2) (c1 : ∀ b o, H' b = some o → ∃ u, B.get? b = some u)
    (c2 : ∀ b o, s1.heap.get? b = some o → b ∉ frs (envOfC qual scope s.heap.objs.size f cd :: outer) → ∃ u, B.get? b = some u) (hE : E (.ref C) none H') :
    CX1 P w outer H s E (.ref a) { s' with heap := h2 } := by
  have I2 : Inv (cxOf (CX1 P w) P w K mg base N qual scope f cd A outer s H E) pins σ H' { s' with heap := h2 } := I.call' (s' := { s' with heap := h2 }) (ch := []) ho un hok hb (fun b z => absurd z (by simp))
  refine ⟨a, C, H', rfl, ⟨I2.os, hb, I2.base, hok, B, a0, fly, c1, fun b o q hn => ?_⟩, hE⟩
  obtain ⟨o', e'⟩ := I.base.there b o q (by intro z; exact absurd (show b ∈ ([] : List Addr) from z) (by simp))
  refine c2 b o' e' fun hm => ?_
  rcases List.mem_cons.mp (show b ∈ s.heap.objs.size :: frs outer from hm) with z | z
  · exact absurd (Heap.lt_size q) (by rw [z]; exact Nat.lt_irrefl _)
  · exact hn z

theorem pass1 : Passes (CX1 P w) (cxOf (CX1 P w) P w K mg base N qual scope f cd A outer s H E) E := by
  rintro pins σ H1 s1 e s' I ⟨a, C, H', rfl, F, hE⟩
  obtain ⟨B, a0, hf, c1, c2⟩ := F.fly
  show wpAny (model P w) (A.deeper (envOfC qual scope s.heap.objs.size f cd)) (leaving (envOfC qual scope s.heap.objs.size f cd) (.ref a)) _ _ s'
  refine wpAny_leaves_onW (outer := outer) I.ok.frames rfl hf fun h2 hf2 sm => ?_
  obtain ⟨un2, hok2⟩ := fly_move F.un F.hok hf.1 (fun b hb => (hf.2.2.1.mem hb).2) c1 c2 hf2.1 sm
  exact fly_leave I F.os F.bare un2 hok2 hf2 c1 c2 hE

theorem raise_leaves {pins : List (Addr × Obj)} {σ : St} {H1 : Hp} {s1 : Shared} {C e : Addr} {h' : Heap} {vs : List Value} (I : Inv (cxOf (CX1 P w) P w K mg base N qual scope f cd A outer s H E) pins σ H1 s1)
    (hx : Heap.MadeExcOf s1.heap h' e (.ref C) vs) (hE : E (.ref C) none H1) : (cxOf (CX1 P w) P w K mg base N qual scope f cd A outer s H E).xe (.ref e) { s1 with heap := h' } := by
  show wpAny (model P w) (A.deeper (envOfC qual scope s.heap.objs.size f cd)) (leaving (envOfC qual scope s.heap.objs.size f cd) (.ref e)) _ _ { s1 with heap := h' }
  have hstk : s1.heap.FunFrames base (envOfC qual scope s.heap.objs.size f cd :: outer) := I.stack
  have hB : (PySem.W.hideAll s1.heap (frs (envOfC qual scope s.heap.objs.size f cd :: outer))).StaysIn s1.heap := fun b o q => PySem.W.of_hideAll _ q
  refine wpAny_leaves_madeW (base := PySem.W.hideAll s1.heap (frs (envOfC qual scope s.heap.objs.size f cd :: outer))) (h := s1.heap) (outer := outer) I.ok.frames rfl hB
    (PySem.W.funFrames_hide hstk fun env he b hb => List.mem_filterMap.mpr ⟨env, he, hb⟩) hx fun h2 t fly _ _ sm => ?_
  have c1 : ∀ b o, H1 b = some o → ∃ u, (PySem.W.hideAll s1.heap (frs (envOfC qual scope s.heap.objs.size f cd :: outer))).get? b = some u := fun b o q => by
    obtain ⟨u, hu⟩ := objOk_there (I.hok b o q)
    exact ⟨u, PySem.W.hideAll_get _ hu fun hm => by rw [I.stkFree b hm] at q; cases q⟩
  have c2 : ∀ b o, s1.heap.get? b = some o → b ∉ frs (envOfC qual scope s.heap.objs.size f cd :: outer) → ∃ u, (PySem.W.hideAll s1.heap (frs (envOfC qual scope s.heap.objs.size f cd :: outer))).get? b = some u := fun b o q hn => ⟨o, PySem.W.hideAll_get _ q hn⟩
  obtain ⟨un2, hok2⟩ := fly_move (h := s1.heap) (h1 := h') (h2 := h2) (Un.kept hx.keeps) (I.hok.kept hx.keeps) (fun b o q => hx.keeps b o (hB b o q))
    (fun b hb => by
      obtain ⟨_, o, ho, nf⟩ := hstk.mem hb
      exact ⟨o, hx.keeps b o ho, nf⟩) c1 c2 fly.1 sm
  exact fly_leave (s' := s1) I rfl I.bare un2 hok2 fly c1 c2 hE
end

abbrev bmV : List Value := [.type "ValueError", .type "Exception", .type "BaseException", .type "object"]
theorem own_cls {K : PySem.W.Frag} {h : Heap} {mg : Str → Option Value} {x : Str} {C : Addr} {bmB : List Value} {newId : String} (KX : K.In h) (hx : mg x = some (.ref C)) (z : PySem.W.excIn K C bmB newId = true) : OwnCls x C bmB newId mg h := by
  refine ⟨hx, ?_⟩
  unfold PySem.W.excIn at z
  split at z
  · next dd cd sl ho =>
    split at z
    · next C' bm k0 k1 k2 k3 n k5 hm hs =>
      simp only [Bool.and_eq_true, beq_iff_eq, Bool.not_eq_true'] at z
      obtain ⟨⟨⟨⟨⟨z1, z2⟩, z3⟩, z4⟩, z5⟩, z6⟩ := z
      subst z1
      subst z2
      obtain ⟨nm, bs, mro, ns, qn, hd, sn, sub, ab, col, del⟩ := cd
      dsimp only at hm z3 z5 z6
      subst hm
      subst z3
      obtain ⟨l⟩ := sl
      simp only at hs
      subst hs
      refine ⟨bm, ns, nm, qn, bs, hd, sn, sub, ab, col, dd, k0, k1, k2, k3, k5, h.nsMap ns, ?_, ?_, ?_, ?_⟩
      · exact KX _ _ ho
      · exact .of_isNs (PySem.W.isNs_of_in KX z5)
      · exact PySem.W.nsMap_none_of_in KX z5 z6
      · exact PySem.W.tail_of_in KX z4
    · cases z
  · cases z

section
variable {P : Program} {w : World} {K : PySem.W.Frag} {mg : Str → Option Value} {base : Heap} {N : List Str} {qual : Str} {scope : Scope} {f : Addr} {cd : Value} {A : Around} {outer : List Env} {s : Shared} {H : Hp} {E : XK}
def tRaise (C : Addr) (E : XK) (t : TA) : TS := fun _ σ H => t σ H fun vs H1 => vs.length ≤ sizeLine ∧ E (.ref C) none H1
theorem ps_raise {x : Str} {C : Addr} {np cpos pos : Pos} {e : Expr} {es : List Expr} {t : TA} (hg : Gl (cxOf (CX1 P w) P w K mg base N qual scope f cd A outer s H E) x) (hm : mg x = some (.ref C)) (hc : PySem.W.excIn K C bmV "ValueError.__new__" = true)
    (ha : PA (cxOf (CX1 P w) P w K mg base N qual scope f cd A outer s H E) (e :: es) t) (hdb : (x == ("__debug__" : Str)) = false := by decide)
    (he : starEach (e :: es) (envOfC qual scope s.heap.objs.size f cd) = (false, eval e (envOfC qual scope s.heap.objs.size f cd)) :: starEach es (envOfC qual scope s.heap.objs.size f cd) := by rfl)
    (hpl : (backTo cpos (starEach (e :: es) (envOfC qual scope s.heap.objs.size f cd))).any (·.1) = false := by rfl) :
    PS (cxOf (CX1 P w) P w K mg base N qual scope f cd A outer s H E) (.Raise (some (.Call (.Name x np) (e :: es) [] cpos)) none pos) (tRaise C E t) := by
  intro pins s1 σ H1 D I h
  have O : OwnCls x C bmV "ValueError.__new__" mg base := own_cls I.mod.kin hm hc
  obtain ⟨tl, N', nm, q, bs, hdct, sn, sub, ab, col, dd, k0, k1, k2, k3, k5, mN, hC, hN, hni, T⟩ := O.obj
  have hh : (cxOf (CX1 P w) P w K mg base N qual scope f cd A outer s H E).A.handled = none := I.ok.hd rfl
  refine wpAny_Raise_call_subT (C := C) (nm := nm) (q := q) (N := N') (bs := bs) (bm := tl) (hdct := hdct) (sn := sn) (sub := sub) (ab := ab) (col := col) (dd := dd) (k0 := k0) (k1 := k1) (k2 := k2) (k3 := k3) (k5 := k5)
    PySem.F.excBase_ValueError (mN := mN) (T.hasType PySem.F.excBase_ValueError.hasBase) hh hpl hni (ld_glob I hg hm ⟨rfl, ?_⟩ hdb)
  have h' := ha cpos pins s1 σ H1 _ I h
  change wpAny _ _ (spliced (backTo cpos (starEach (e :: es) (envOfC qual scope s.heap.objs.size f cd)))) _ _ _ at h'
  show wpAny _ _ (evalArgs (.ref C) true (backTo cpos (starEach (e :: es) (envOfC qual scope s.heap.objs.size f cd))) []) _ _ _
  rw [he] at h' ⊢
  exact Calls.evalArgs_plain (wpAny_mono h' (fun vs s2 ⟨ws, H2, I2, r, hl, hE⟩ => ⟨rfl, by rw [← r.length]; exact hl, I2.bk _ _ hC, hN.keeps I2.bk, T.keeps I2.bk, fun h3 e3 hm3 => raise_leaves I2 hm3 hE⟩) fun _ _ y => y)
end

theorem Fun.okX {P : Program} {w : World} {K : PySem.W.Frag} {mg : Str → Option Value} {base : Heap} {x qual : Str} {st : Stmt} {f : Addr} {fd : FuncData} {N ps : List Str} {k : Nat} {sp : Sp} (F : L2.Fun K x qual st f fd) (S : FnScope N ps (defScope st)) (len : ∀ vs H Q E, sp vs H Q E → vs.length = ps.length)
    (hbody : ∀ (cdv : Value) (A : Around) (outer : List Env) (s : Shared) (H : Hp) (vs : List V) (Q : VK) (E : XK), Room k (A.deeper (envOfC qual (defScope st) s.heap.objs.size f cdv)) → sp vs H Q E →
      ∃ t, PSs (cxOf (CX1 P w) P w K mg base N qual (defScope st) f cdv A outer s H E) (defBody st) t ∧ t { nx := fun _ H' => Q .non H', rt := Q } (start N vs) H) : FnOk P w K mg base (CX1 P w) (k + 1) f fd ps sp := by
  obtain ⟨oc, od, kV, doc, pm, an, cdv, ct, osl, rfl, lk, hcd⟩ := F.ex
  exact fn_of lk hcd S len fun A outer s H vs Q E hr hsp => hbody cdv A outer s H vs Q E hr hsp
theorem FnOk.to0 {P : Program} {w : World} {K : PySem.W.Frag} {mg : Str → Option Value} {base : Heap} {k : Nat} {f : Addr} {fd : FuncData} {ps : List Str} {sp sp' : Sp} (F : FnOk P w K mg base (CX1 P w) k f fd ps sp) (h : ∀ vs H Q E, sp' vs H Q E → sp vs H Q E0) : FnOk P w K mg base CX0 k f fd ps sp' :=
  ⟨fun vs H Q E q => F.len vs H Q _ (h _ _ _ _ q), fun A outer s H args us vs Q E hr he hb hv hs => codeAny_mono (F.run A outer s H args us vs Q E0 hr he hb hv (h _ _ _ _ hs)) fun r s' h => by
    cases r with
    | error e => obtain ⟨_, _, _, _, _, z⟩ := h; exact z
    | ok fl => cases fl <;> exact h⟩

def XC (X : Cx) (pins : List (Addr × Obj)) (σ : St) (EK : XK) (e : Value) (s' : Shared) : Prop := ∃ H1 s1, Inv X pins σ H1 s1 ∧ CX1 X.prog X.w X.stack H1 s1 EK e s'
abbrev TX := XK → TS
def PX1 (X : Cx) (st : Stmt) (t : TX) : Prop := ∀ (pins : List (Addr × Obj)) (s : Shared) (σ : St) (H : Hp) (D : Ends) (EK : XK), Inv X pins σ H s → t EK D σ H → wpAny (model X.prog X.w) X.A (exec st X.env) (SP X pins D) (XC X pins σ EK) s
def PXs (X : Cx) (st : List Stmt) (t : TX) : Prop := ∀ (pins : List (Addr × Obj)) (s : Shared) (σ : St) (H : Hp) (D : Ends) (EK : XK), Inv X pins σ H s → t EK D σ H → wpAny (model X.prog X.w) X.A (execs st X.env) (SP X pins D) (XC X pins σ EK) s
def PXe (X : Cx) (e : Expr) (t : XK → TE) : Prop := ∀ (pins : List (Addr × Obj)) (s : Shared) (σ : St) (H : Hp) (Q : VK) (EK : XK), Inv X pins σ H s → t EK σ H Q → wpAny (model X.prog X.w) X.A (eval e X.env) (EP X pins σ Q) (XC X pins σ EK) s
section
variable {X : Cx} {k : Nat} {f : Addr} {fd : FuncData} {ps : List Str} {sp : Sp} {dvs : List V} {ds : List Value} {x : Str} {p pos : Pos} {e : Expr} {es : List Expr} {t : TA}
theorem px_call (F : FnOk X.prog X.w X.K X.mg X.base (CX1 X.prog X.w) k f fd ps sp) (hr : Room k X.A) (hg : Gl X x) (hm : X.mg x = some (.ref f)) (hk : PySem.W.keepIn X.K (.ref f) = true) (hb : Binds X.K fd ps ds) (hd : Vals dvs ds)
    (ha : PA X.nox (e :: es) t) (hdb : (x == ("__debug__" : Str)) = false := by decide) (he : starEach (e :: es) X.env = (false, eval e X.env) :: starEach es X.env := by rfl) (hpl : (backTo pos (starEach es X.env)).any (·.1) = false := by rfl) :
    PXe X (.Call (.Name x p) (e :: es) [] pos) (fun EK => tCall sp dvs EK t) := by
  intro pins s σ H Q EK I h
  refine wpAny_Call_Name_kw (ld_glob I hg hm ?_ hdb)
  refine PySem.W.callWith_K (h₀ := X.base) I.ok.mod.kin hk (wpAny_mono (ha pos pins s σ H _ (I.wish _) h) (fun us s1 ⟨vs, H1, I1, r, q⟩ => ⟨I1.kIn, ?_⟩) fun _ _ z => z.elim) he hpl
  have I1 := I1.unwish
  have r2 : Vals (vs ++ dvs) (us ++ ds) := r.append hd
  have hl : (us ++ ds).length = ps.length := by rw [← r2.length]; exact F.len _ _ _ _ q
  refine wpAny_call (codeAny_mono (F.run X.A X.stack s1 H1 ⟨us, []⟩ (us ++ ds) (vs ++ dvs) Q EK hr I1.env0 (hb s1 us I1.kIn hl) r2 q) fun r s' hq => ?_)
  cases r with
  | error e => exact ⟨H1, s1, I1, hq⟩
  | ok fl =>
    cases fl with
    | ret u => exact I1.after hq
    | next => exact False.elim hq
    | brk => exact False.elim hq
    | cont => exact False.elim hq
theorem px_expr {te : XK → TE} (he : PXe X e te) (hs : swapsWith e none pos.line X.env = pure false := by rfl) : PX1 X (.Expr e pos) (fun EK => tDrop (te EK)) := by
  intro pins s σ H D EK I h
  exact wpAny_Expr_any (thn (he pins s σ H _ EK I h) fun v s1 ⟨x, H1, I1, r1, q1⟩ => ⟨σ, H1, I1, q1⟩) I.quiet hs
theorem px_if {c : Expr} {a b : List Stmt} {tc : TT} {ta tb : TX} (hc : PT X.nox c tc) (ha : PXs X a ta) (hb : PXs X b tb) : PX1 X (.If c a b pos) (fun EK => tIfS tc (ta EK) (tb EK)) := by
  intro pins s σ H D EK I h
  refine wpAny_If (wpAny_mono (hc pins s σ H _ (I.wish _) h) (fun d s1 ⟨H1, I1, q1⟩ => ?_) fun _ _ z => z.elim)
  have I1 := I1.unwish
  cases d with
  | true => exact ha pins s1 σ H1 D EK I1 q1
  | false => exact hb pins s1 σ H1 D EK I1 q1
theorem pxs_one {st : Stmt} {t : TX} (h1 : PX1 X st t) : PXs X [st] t := by
  intro pins s σ H D EK I h
  refine wpAny_execs_cons (thn (h1 pins s σ H D EK I h) fun f s1 q => ?_)
  cases f with
  | next => exact wpAny_execs_nil q
  | ret v => exact q
  | brk => exact q
  | cont => exact q
end

abbrev hand (X : Cx) (e : Value) : Cx := { X with A := X.A.mark (some e), calm := false, xe := fun _ _ => False }
section
variable {X : Cx} {pins : List (Addr × Obj)} {σ : St} {H : Hp} {s : Shared} {e : Value}
theorem inv_hand (I : Inv X pins σ H s) (e : Value) : Inv (hand X e) pins σ H s :=
  ⟨⟨I.ok.mod, I.ok.kind, I.ok.glob, I.ok.blt, I.ok.above, I.ok.inj, I.ok.has, I.ok.cab, (fun z => nomatch z), I.ok.frames, I.ok.stk, I.ok.exf, I.ok.bs, I.ok.bsz, I.ok.noex, I.ok.exfs, I.ok.funs, I.ok.frf⟩, I.os, I.bare, I.base, I.loc, I.cell, I.free, I.freeC, I.pin, I.hok, I.len⟩
theorem inv_unhand (ok : X.Ok) (I : Inv (hand X e) pins σ H s) : Inv X pins σ H s := ⟨ok, I.os, I.bare, I.base, I.loc, I.cell, I.free, I.freeC, I.pin, I.hok, I.len⟩

theorem name_goes {A : Around} {E : Value → Shared → Prop} {i : Nat} {n : Str} {pos : Pos} {Q : Unit → Shared → Prop} (I : Inv X pins σ H s) (hN : X.N.Nodup) (hi : X.N[i]? = some n) (hx : X.env.scope.names.lookup n = some .local)
    (h : ∀ s', Inv X pins (σ.set i none) H s' → Q () s') : wpAny (model X.prog X.w) A (do bindName X.env n .none; unbindBehindTheSuite X.env n pos) Q E s := by
  refine wpAny_bind (wpAny_bindName (store_ok (v := .non) I hN hi (.inl hx) rfl (fun s1 I1 => ?_) (.inr hx)))
  unfold unbindBehindTheSuite
  refine wpAny_onRaise ?_
  have hiσ : i < σ.length := by rw [I.len]; exact (List.getElem?_eq_some_iff.mp hi).1
  obtain ⟨m, hn, hl⟩ := id I1.loc
  obtain ⟨u, _, hu⟩ := hl i n .non hi (List.getElem?_set_self hiσ) (.inl hx)
  have hk : X.env.kindOf n = some .local := hx
  have hv : m n = some u := by
    rcases hu with ⟨_, e⟩ | ⟨k, _⟩
    · exact e
    · rcases k with k | k <;> (rw [hk] at k; cases k)
  have hcls : (X.env.scope.kind == .class || (X.env.scope.kind == .module && X.env.locals != X.env.globals)) = false := by rw [I.ok.kind]; rfl
  refine wpAny_unbindName_local hk hn hv hcls fun h' z hn' hs => ?_
  have ne : ∀ {b : Addr} {o : Obj}, X.s₀.heap.get? b = some o → b ≠ X.env.locals := fun e => Nat.ne_of_lt (Nat.lt_of_lt_of_le (Heap.lt_size e) I.ok.above)
  refine h _ ⟨I1.ok, I1.os, I1.bare, ⟨fun b o e a1 a2 a3 => (hs.2 b (ne e)).trans (I1.base.keep b o e a1 a2 a3), fun b o e a1 a2 a3 => ?_, I1.base.free, fun b o e a3 => ?_, I1.base.tups, I1.base.frzs, I1.base.tbls⟩, ⟨_, hn', fun j y v' e1 e2 e3 => ?_⟩, fun y c e => ?_, I1.free, I1.freeC, fun p hp => ?_, fun b o e => ?_, ?_⟩
  · obtain ⟨sl, q⟩ := I1.base.slot b o e a1 a2 a3
    exact ⟨sl, (hs.2 b (ne e)).trans q⟩
  · obtain ⟨o', q⟩ := I1.base.there b o e a3
    exact ⟨o', (hs.2 b (ne e)).trans q⟩
  · have hj : j ≠ i := fun q => by
      rw [q, List.getElem?_set_self hiσ] at e2
      cases e2
    rw [List.getElem?_set_ne (Ne.symm hj)] at e2
    obtain ⟨u', r', q⟩ := hl j y v' e1 (by rw [List.getElem?_set_ne (Ne.symm hj)]; exact e2) e3
    refine ⟨u', r', ?_⟩
    rcases q with ⟨k, q⟩ | ⟨k, c, q, cl⟩
    · refine .inl ⟨k, ?_⟩
      have hy : y ≠ n := fun q => hj (nodup_ix hN e1 (by rw [q]; exact hi))
      show (if y = n then z else m y) = some u'
      rw [if_neg hy]
      exact q
    · exact .inr ⟨k, c, q, cl.sameBut hs (I1.cne y c q)⟩
  · obtain ⟨v', cl⟩ := I1.cell y c e
    exact ⟨v', cl.sameBut hs (I1.cne y c e)⟩
  · obtain ⟨e, n', ne', nf, d⟩ := I1.pin p hp
    exact ⟨(hs.2 p.1 ne').trans e, n', ne', nf, d⟩
  · have nb : ∀ c u, H c = some u → c ≠ X.env.locals := fun c u q z => by rw [z, I1.free] at q; cases q
    refine (I1.hok b o e).stay (fun c v hc q => (hs.2 c ?_).trans q) (fun _ q => q) fun _ _ q => q
    rcases hc with rfl | hc
    · exact nb _ _ e
    · exact nb _ _ hc
  · rw [List.length_set]
    exact I.len
end

def excO (a C : Addr) : HO := .ext fun h => ∃ o, h.get? a = some o ∧ o.cls = .ref C
theorem excO_ok {P : Program} {w : World} {H : Hp} {h : Heap} {a C : Addr} {o : Obj} (e : h.get? a = some o) (c : o.cls = .ref C) : ObjOk P w H h a (excO a C) :=
  ⟨⟨o, e, c⟩, ⟨o, e⟩, fun h1 h2 ⟨o', e', c'⟩ k => ⟨o', k o' e', c'⟩⟩

def behind (D : Ends) (i : Nat) : Ends := { nx := fun σ H => D.nx (σ.set i none) H, rt := D.rt, bk := fun σ H => D.bk (σ.set i none) H, ct := fun σ H => D.ct (σ.set i none) H }
def tTry (K : PySem.W.Frag) (CB : Addr) (i : Nat) (tb : TX) (th : TS) : TS := fun D σ H =>
  tb (fun c _ H' => ∃ C, c = .ref C ∧ PySem.W.exmOne K (.ref C) (.ref CB) = some true ∧ ∀ a, H' a = none → th (behind D i) (σ.set i (some (.ref a))) (upd H' a (excO a C))) D σ H
theorem ps_try {X : Cx} {body : List Stmt} {x n : Str} {np hpos pos : Pos} {b₀ : Stmt} {suite : List Stmt} {CB : Addr} {i : Nat} {tb : TX} {th : TS} (hst : X.stack = X.env :: X.outer) (hfr : X.env.frame = some X.env.locals) (hb : PXs X body tb)
    (hg : Gl X x) (hm : X.mg x = some (.ref CB)) (hN : X.N.Nodup) (hi : X.N[i]? = some n) (hx : X.env.scope.names.lookup n = some .local) (hs : ∀ e, PSs (hand X e) (b₀ :: suite) th) (hdb : (x == ("__debug__" : Str)) = false := by decide) :
    PS X (.Try body [.ExceptHandler (some (.Name x np)) (some n) (b₀ :: suite) hpos] [] [] pos) (tTry X.K CB i tb th) := by
  intro pins s σ H D I h
  refine wpAny_Try_except (wpAny_mono (hb pins s σ H D _ I h) (fun f s1 q => ?_) fun e s1 q => ?_)
  · cases f with
    | next => exact wpAny_execs_nil q
    | ret v => exact q
    | brk => exact q
    | cont => exact q
  obtain ⟨H1, s2, I1, a, C, H', rfl, F, C', hC, hmat, hq⟩ := q
  cases hC
  obtain ⟨B, a0, hf, c1, c2⟩ := F.fly
  have hl : ∀ b ∈ frs X.stack, ∃ o, s1.heap.get? b = some o ∧ ∀ vs, o.data ≠ .fields vs := fun b hm => (hf.2.2.1.mem hm).2
  have hf1 := hf
  rw [hst] at hf
  refine wpAny_looks_onW (by rw [I.ok.frames, hst]) hfr hf fun h4 held4 sm4 => ?_
  refine wpAny_landsW held4 fun h5 fly5 sm5 => ?_
  obtain ⟨un5, hok5⟩ := fly_move F.un F.hok hf.1 hl c1 c2 fly5.1 (sm4.trans sm5)
  have I5 : Inv X pins σ H' { s1 with heap := h5 } := I1.call' (s' := { s1 with heap := h5 }) (ch := []) F.os un5 hok5 F.bare (fun b z => absurd z (by simp))
  obtain ⟨ob, hob, hobc⟩ := fly5.there
  refine wpAny_handleBy_cons (codeAny_handlers_test ?_) (by intro q; cases q)
  refine ld_glob (X := hand X (.ref a)) (inv_hand I5 (.ref a)) hg hm ?_ hdb
  have LT : PySem.W.Looks (model X.prog X.w) h5 (typeOf (.ref a)) (.ref C) := hobc ▸ (PySem.W.Looks.ld hob).andThen .now
  refine PySem.W.exm_one (M := model X.prog X.w) I5.kIn LT hmat _ _ _ _ (fun _ _ z => z) ?_
  show codeAny (model X.prog X.w) (X.A.mark (some (.ref a))) (.handlers (.ref a) [.ExceptHandler none (some n) (b₀ :: suite) hpos] X.env) _ _
  refine codeAny_handlers_suite_as ?_
  refine lands_againW fly5 fun h6 fly6 sm6 => ?_
  obtain ⟨un6, hok6⟩ := fly_move F.un F.hok hf.1 hl c1 c2 fly6.1 ((sm4.trans sm5).trans sm6)
  obtain ⟨oe, ws, hoe, hoec, hoed, _⟩ := fly6.first
  have ha' : H' a = none := by
    cases q : H' a with
    | none => rfl
    | some o =>
      obtain ⟨u, hu⟩ := c1 a o q
      rw [fly6.2.1] at hu
      cases hu
  have na : ∀ o, s2.heap.get? a = some o → False := fun o q => by
    by_cases hm : a ∈ frs X.stack
    · obtain ⟨o', ho', nf⟩ := (fly6.2.2.1.mem (by rw [hst] at hm; exact hm)).2
      rw [hoe] at ho'
      cases ho'
      exact nf _ hoed
    · obtain ⟨u, hu⟩ := c2 a o q hm
      rw [fly6.2.1] at hu
      cases hu
  have un6' : Un (frs X.stack) [] H1 (upd H' a (excO a C)) s2.heap h6 := ⟨un6.keep, un6.slot, fun b o q n hx => by rw [upd_ne (fun z => na o (by rw [← z]; exact q))]; exact un6.free b o q n hx, un6.there,
    fun b xs q => by rw [upd_ne (ne_of_none (un6.tups b xs q) ha')]; exact un6.tups b xs q, fun b o u q => by rw [upd_ne (ne_of_none (un6.frzs b o u q) ha')]; exact un6.frzs b o u q,
    fun b ps q => by obtain ⟨more, z⟩ := un6.tbls b ps q; exact ⟨more, by rw [upd_ne (ne_of_none z ha')]; exact z⟩⟩
  have hok6' : HOk X.prog X.w (upd H' a (excO a C)) h6 := fun b o e => by
    by_cases z : b = a
    · subst z
      rw [upd_same] at e
      cases e
      exact excO_ok hoe hoec
    · rw [upd_ne z] at e
      exact (hok6 b o e).stay (fun _ _ _ q => q) (fun c q => by rw [upd_ne (ne_of_none q ha')]; exact q) fun c xs q => by rw [upd_ne (ne_of_none q ha')]; exact q
  have I6 : Inv X pins σ (upd H' a (excO a C)) { s1 with heap := h6 } := I1.call' (s' := { s1 with heap := h6 }) (ch := []) F.os un6' hok6' F.bare (fun b z => absurd z (by simp))
  refine store_ok (X := hand X (.ref a)) (v := .ref a) (inv_hand I6 (.ref a)) hN hi (.inl hx) rfl (fun s7 I7 => ?_) (.inr hx)
  refine wpAny_mono (hs (.ref a) pins s7 _ _ (behind D i) I7 (hq a ha')) (fun f s8 q8 => ?_) fun _ _ z => z.elim
  show wpAny (model X.prog X.w) X.A (do bindName X.env n .none; unbindBehindTheSuite X.env n hpos) (fun _ s3 => SP X pins D f s3) X.xe s8
  cases f with
  | next =>
    obtain ⟨σ', H2, I8, q⟩ := q8
    exact name_goes (inv_unhand I.ok I8) hN hi hx fun s9 I9 => ⟨_, H2, I9, q⟩
  | brk =>
    obtain ⟨σ', H2, I8, q⟩ := q8
    exact name_goes (inv_unhand I.ok I8) hN hi hx fun s9 I9 => ⟨_, H2, I9, q⟩
  | cont =>
    obtain ⟨σ', H2, I8, q⟩ := q8
    exact name_goes (inv_unhand I.ok I8) hN hi hx fun s9 I9 => ⟨_, H2, I9, q⟩
  | ret u =>
    obtain ⟨v, σ', H2, I8, r, q⟩ := q8
    exact name_goes (inv_unhand I.ok I8) hN hi hx fun s9 I9 => ⟨v, _, H2, I9, r, q⟩
end L3

set_option Elab.async false
set_option linter.all false
set_option maxRecDepth 100000
set_option maxHeartbeats 4000000
namespace L3
open PySem PySem.Spec PyProof.Rows L2

structure ExcK (K : PySem.W.Frag) (C : Addr) : Prop where
  ga : PySem.W.findIn K (.ref C) "__getattribute__" = some (some (.builtin "BaseException.__getattribute__"))
  gt : PySem.W.findIn K (.ref C) "__getattr__" = some none
  cl : PySem.W.findIn K (.ref C) "__class__" = some (some (.builtin "object.__class__"))
  sb : PySem.W.subIn K (.ref C) (.type "BaseException") = some true
  so : PySem.W.subIn K (.ref C) (.type "object") = some true
  hc : (PySem.W.clsIn K C).isSome = true

section
variable {prog : Program} {w : World} {A : Around} {E : Value → Shared → Prop} {h : Heap} {g : Array GenState} {d : Drawn} {t : Nat} {os : OsState} {a C : Addr} {o : Obj} {K : PySem.W.Frag}

theorem exc_class_get {R : Result → Shared → Prop} (X : K.In h) (Z : ExcK K C) (hx : h.get? a = some o) (hc : o.cls = .ref C) (hq : R (.ok (.ret (.ref C))) ⟨h, g, d, t, os⟩) :
    codeAny (model prog w) A (.call (.builtin "getset_descriptor.__get__") ⟨[.builtin "object.__class__", .ref a, .ref C], []⟩) R ⟨h, g, d, t, os⟩ := by
  have y5 : (⟨h, g, d, t, os⟩ : Shared).TypeIs (.builtin "object.__class__") "getset_descriptor" := F.typeOf_object_class
  have LO : PySem.W.Looks (model prog w) h (isSubtype (.ref C) (.type (".".intercalate ("object.__class__".cutAt '.').dropLast))) true := by
    rw [F.owner_object_class]
    exact PySem.W.looks_subIn X Z.so
  refine codeAny_call_builtin F.slot_gs_get.plain F.entry_gs_get (F.slot_gs_get.check _ _ _ _ _ _ _ _ y5 (F.args_gs_get _ _ _) ?_)
  repeat (any_goals (first | assumption | (with_reducible refine wpAny_loadPart_at hx ?_; rw [hc]) | with_reducible refine LO.at ?_ | wp_step))
  refine ⟨Code.quiet_builtin _ (by decide +kernel), codeAny_builtin F.entry_object_class ?_⟩
  repeat (any_goals (first | assumption | (with_reducible refine wpAny_loadPart_at hx ?_; rw [hc]) | wp_step))

theorem exc_ga_check {M : Model} {nameV : Value} {Q : Unit → Shared → Prop} (X : K.In h) (Z : ExcK K C) (hx : h.get? a = some o) (hc : o.cls = .ref C) (hq : Q () ⟨h, g, d, t, os⟩) :
    wpAny M A (checkBuiltinCall "BaseException.__getattribute__" ⟨[.ref a, nameV], []⟩) Q E ⟨h, g, d, t, os⟩ := by
  have y1 : builtinKind "BaseException.__getattribute__" = some .slot := by decide +kernel
  have y2 : splitId "BaseException.__getattribute__" = some ("BaseException", "__getattribute__") := by decide +kernel
  have LS : PySem.W.Looks M h (isSubtype (.ref C) (.type "BaseException")) true := PySem.W.looks_subIn X Z.sb
  have y3 := F.args_bexc_ga (.ref a) nameV
  simp only [checkBuiltinCall, y1, y2]
  refine wpAny_bind ?_
  unfold isInstance
  repeat (first | (with_reducible refine wpAny_loadPart_at hx ?_; rw [hc]) | with_reducible refine LS.at ?_ | wp_step)
  exact hq

theorem exc_ga_entry {tk : Tok} {Q : Fin → Shared → Prop} (X : K.In h) (Z : ExcK K C) (hx : h.get? a = some o) (hc : o.cls = .ref C) (hq : Q (.done (.ret (.ref C))) ⟨h, g, d, t, os⟩) :
    wpAny (model prog w) A (Builtin.«object.__getattribute__» ⟨[.ref a, .str "__class__" tk], []⟩) Q E ⟨h, g, d, t, os⟩ := by
  have y5 : (⟨h, g, d, t, os⟩ : Shared).TypeIs (.builtin "object.__class__") "getset_descriptor" := F.typeOf_object_class
  have f5 := F.typeOf_object_class
  have f6 := F.slot_gs_get.lookup
  have f7 := F.slot_gs_set.lookup
  have LC : PySem.W.Looks (model prog w) h (typeLookup (.ref C) "__class__") (some (.builtin "object.__class__")) := PySem.W.looks_findIn X Z.cl
  repeat (any_goals (first | assumption | (with_reducible refine wpAny_loadPart_at hx ?_; rw [hc]) | with_reducible refine LC.at ?_ | wp_step))
  refine exc_class_get X Z hx hc ?_
  repeat (any_goals (first | assumption | wp_step))

theorem exc_class_by {tk : Tok} {Q : Value → Shared → Prop} (X : K.In h) (Z : ExcK K C) (hx : h.get? a = some o) (hc : o.cls = .ref C) (hq : Q (.ref C) ⟨h, g, d, t, os⟩) :
    wpAny (model prog w) A (getAttrBy (.ref a) (.str "__class__" tk) false) Q E ⟨h, g, d, t, os⟩ := by
  have f3 := F.attr_ValueError.ga.bind (.ref a)
  have y2 : (Value.builtin "BaseException.__getattribute__" == Value.builtin "object.__getattribute__") = false := by decide +kernel
  have y1 : (onTheHeap (Value.ref C) && Value.builtin "BaseException.__getattribute__" == Value.builtin "object.__getattribute__") = false := by rw [y2]; rfl
  have L1 : PySem.W.Looks (model prog w) h (typeLookup (.ref C) "__getattribute__") (some (.builtin "BaseException.__getattribute__")) := PySem.W.looks_findIn X Z.ga
  have L2 : PySem.W.Looks (model prog w) h (typeLookup (.ref C) "__getattr__") none := PySem.W.looks_findIn X Z.gt
  repeat (any_goals (first | assumption | (with_reducible refine wpAny_loadPart_at hx ?_; rw [hc]) | with_reducible refine L1.at ?_ | with_reducible refine L2.at ?_ | wp_step))
  refine codeAny_call_builtin F.attr_ValueError.ga.plain F.entry_bexc_ga (exc_ga_check X Z hx hc (exc_ga_entry X Z hx hc ?_))
  repeat (any_goals (first | assumption | wp_step))

theorem exc_class_attr {Q : Option Value → Shared → Prop} (X : K.In h) (Z : ExcK K C) (hx : h.get? a = some o) (hc : o.cls = .ref C) (hq : Q (some (.ref C)) ⟨h, g, d, t + 1, os⟩) :
    wpAny (model prog w) A (getAttr? (.ref a) "__class__") Q E ⟨h, g, d, t, os⟩ := by
  unfold getAttr? getAttrBy?
  repeat (any_goals (first | assumption | with_reducible apply exc_class_by X Z hx hc | wp_step))

theorem kitx_exc (Z : ExcK K C) : PySem.W.KitX K (.ref a) (.ref C) (fun h => ∃ o, h.get? a = some o ∧ o.cls = .ref C) where
  ty := fun _ _ _ ⟨o, h1, h2⟩ => h2 ▸ (PySem.W.Looks.ld h1).andThen .now
  it := fun _ _ X _ => by
    have hcD := Z.hc
    unfold PySem.W.clsIn at hcD
    split at hcD
    · next ho =>
      intro A' Q' E' s' k q
      unfold isType loadHead
      exact wpAny_bind (wpAny_loadPart (k _ _ (X _ _ ho)) (wpAny_pure q))
    · cases hcD
  ne := fun h tp dd its n sl X htp => by
    refine Bool.eq_false_iff.mpr fun q => ?_
    have e : C = tp := Value.ref.inj (beq_iff_eq.mp q)
    subst e
    have hcD := Z.hc
    unfold PySem.W.clsIn at hcD
    split at hcD
    · next ho =>
      have z := (X _ _ ho).symm.trans htp
      cases z
    · cases hcD
  ca := fun {_ _ _ _ _ s} X p k => by
    obtain ⟨h, g, d, t, os⟩ := s
    obtain ⟨o, h1, h2⟩ := p
    exact exc_class_attr X Z h1 h2 k
end

section
variable {X : Cx}
def cV : V → Value
  | .ref a => .ref a
  | .ty n => .type n
  | _ => .none
theorem call_isinstE : CallR X (.builtin "isinstance") (fun xs H Q => ∃ a C y b, xs = [.ref a, y] ∧ H a = some (excO a C) ∧ ExcK X.K C ∧ ((∃ c, y = .ref c) ∨ ∃ n, y = .ty n) ∧ PySem.W.kitOne X.K (.ref C) (cV y) = some b ∧ Q (.bl b) H) := by
  intro pins s σ H xs us Q I r h
  obtain ⟨a, C, y, b, rfl, ha, Z, hy, e, q⟩ := h
  obtain ⟨u, v, rfl, rx, ry⟩ := vals2 r
  cases rx
  obtain ⟨p, _⟩ := (show ObjOk X.prog X.w H s.heap a (excO a C) from I.hok a _ ha)
  have ev : v = cV y := by
    rcases hy with ⟨c, rfl⟩ | ⟨n, rfl⟩
    · exact ry
    · exact ry
  subst ev
  exact PySem.W.kia_one (kitx_exc Z) I.kIn p e (fun z => nomatch z) fun tk => ⟨.bl b, H, I.tok tk, rfl, q⟩

theorem call_isinstEK {K : PySem.W.Frag} (hK : X.K = K) : CallR X (.builtin "isinstance") (fun xs H Q => ∃ a C y b, xs = [.ref a, y] ∧ H a = some (excO a C) ∧ ExcK K C ∧ ((∃ c, y = .ref c) ∨ ∃ n, y = .ty n) ∧ PySem.W.kitOne K (.ref C) (cV y) = some b ∧ Q (.bl b) H) := by
  subst hK
  exact call_isinstE
theorem boot_ValueError : bootBuiltins "ValueError" = some (.type "ValueError") := by decide +kernel

def Itv (K : PySem.W.Frag) (a : Addr) (n : Nat) : It :=
  ⟨fun i H => i < n ∧ ∃ xs, SqL K H a xs ∧ xs.length = n, fun i H x H' => H' = H ∧ ∀ xs, SqL K H a xs → xs[n - 1 - i]? = some x, fun i H => i = n⟩
theorem turn_rev {P : Program} {w : World} {K : PySem.W.Frag} {tg : Expr} (a it : Addr) (n : Nat) : Turn P w K tg (Itv K a n) [it] it (fun i h => h.IsRevIter it a ((n : Int) - 1 - (i : Int))) where
  mem := by simp
  obj := fun i h st b hb => by
    have e : b = it := by simpa using hb
    subst e
    obtain ⟨o, e, c, d⟩ := st
    exact ⟨o, e, fun v z => by rw [d] at z; cases z⟩
  keep := fun i h h' st k => st.at fun o e => k it (by simp) o e
  item := by
    intro X hP hw hK hc i pins s σ H E I hf st hg
    subst hP hw hK
    obtain ⟨hi, xs, hq, hn⟩ := hg
    obtain ⟨its, rv, p, hz⟩ := I.list hq
    have hx : xs[n - 1 - i]? = some (xs[n - 1 - i]'(by omega)) := List.getElem?_eq_getElem _
    obtain ⟨u, hu, ru⟩ := rv.get hx
    obtain ⟨f0, f1, f2, f3, f4, f5⟩ := hf it (by simp)
    have e1 : (n : Int) - 1 - (i : Int) = ((n - 1 - i : Nat) : Int) := by omega
    rw [e1] at st
    refine wpAny_pyNext_rev_item st p.isList (x := u) (by simpa using hu) fun h' st' sb => ?_
    have I1 : Inv X pins σ H { s with heap := h' } := I.turned (t' := s.toks) (fun b o hb e => (sb.2 b hb).trans e) f0 f1 f3 f4 f5
    obtain ⟨o, e, c, d⟩ := id st'
    have e2 : ((n - 1 - i : Nat) : Int) - 1 = (n : Int) - 1 - ((i + 1 : Nat) : Int) := by omega
    rw [e2] at st'
    exact ⟨u, rfl, go_of (s := { s with heap := h' }) e c d (by decide) ⟨_, H, I1, ru, ⟨rfl, fun ys hy => by rw [I.list_inj hy hq]; exact hx⟩, st', fun b hb => (hf b hb).1⟩⟩
  done := by
    intro X hP hw hK hc i pins s σ H E I hf st hg
    subst hP hw hK
    have hg : i = n := hg
    subst hg
    obtain ⟨f0, f1, f2, f3, f4, f5⟩ := hf it (by simp)
    have e1 : (i : Int) - 1 - (i : Int) = -1 := by omega
    rw [e1] at st
    exact wpAny_pyNext_rev_end (I.ok.hd hc) st fun h' eb => ⟨rfl, I.turned (t' := s.toks) (fun b o hb e => eb b o hb e) f0 f1 f3 f4 f5⟩
  self := fun _ _ _ _ _ st h => wpAny_pyIter_revIter st h
def iRev (K : PySem.W.Frag) (ta : TA) : TI := fun σ H R => ta σ H fun vs H1 => ∃ a xs, vs = [.ref a] ∧ SqL K H1 a xs ∧ R (Itv K a xs.length) H1
theorem pi_rev {tg l : Expr} {ta : TA} {p pos : Pos} (hg : Gl X "reversed") (hm : X.mg "reversed" = none) (ha : PA X [l] ta) (hs : starEach [l] X.env = [(false, eval l X.env)] := by rfl) :
    PI X tg (.Call (.Name "reversed" p) [l] [] pos) (iRev X.K ta) := by
  intro pins s σ H R I h
  refine wpAny_Call_Name_kw (ld_blt I hg hm boot_reversed ?_ (by decide) (by decide))
  refine PyProof.Rows.callWith_type1 (thn (ha pos pins s σ H _ I h) fun us s1 h1 => ?_) hs rfl
  obtain ⟨vs, H1, I1, r1, a, xs, rfl, hq, q⟩ := h1
  obtain ⟨u, rfl, rx⟩ := vals1 r1
  cases rx
  obtain ⟨its, rv, pl, hz⟩ := I1.list hq
  have hlen := rv.length
  refine call_reversed_list pl.isList ?_
  have I2 : Inv X pins σ H1 { s1 with heap := s1.heap.push (revObj a ((its.toArray.size : Int) - 1)) } := I1.kept (t' := s1.toks) fun b o z => Heap.get?_push_of_some _ z
  have st : (s1.heap.push (revObj a ((its.toArray.size : Int) - 1))).IsRevIter s1.heap.objs.size a ((its.toArray.size : Int) - 1) := ⟨_, Heap.get?_push_size _ rfl, rfl, rfl⟩
  refine wpAny_pyIter_revIter (s := { s1 with heap := s1.heap.push (revObj a ((its.toArray.size : Int) - 1)) }) st ?_
  have e : ((its.toArray.size : Int) - 1) = (xs.length : Int) - 1 - ((0 : Nat) : Int) := by rw [List.size_toArray]; omega
  rw [e] at st I2 ⊢
  refine ⟨s1.heap.objs.size, [s1.heap.objs.size], _, _, H1, rfl, I2, turn_rev a _ xs.length, st, fun b hb => ?_, q⟩
  have z : b = s1.heap.objs.size := by simpa using hb
  rw [z]
  exact I1.fpOk (Nat.le_refl _) (I1.hok.fresh (Nat.le_refl _))
end
section
variable {K : PySem.W.Frag} {a : Addr} {xs : List V} {g : TG} {tt : TT} {te : TE} {Q : VK} {D : Addr} {σ : St} {H : Hp}
theorem comp_rev {n : Nat} (hn : n = xs.length) (Pv : Nat → List V → St → Hp → Prop) (h0 : Pv 0 [] σ (upd H D (.lst []))) (hl : ∀ i ys σ H, i ≤ xs.length → Pv i ys σ H → SqL K H a xs)
    (hs : ∀ i x ys σ H, xs.reverse[i]? = some x → Pv i ys σ H → g x σ H fun σ3 H3 => tt σ3 H3 fun b H4 => if b = true then te σ3 H4 fun v H5 => H5 D = some (.lst ys) ∧ ys.length < sizeLine ∧ Pv (i + 1) (ys ++ [v]) σ3 (upd H5 D (.lst (ys ++ [v]))) else Pv (i + 1) ys σ3 H4)
    (hd : ∀ ys σ H, Pv xs.length ys σ H → Q (.ref D) H) : CompW (Itv K a n) g tt te Q D σ H := by
  subst hn
  refine ⟨fun i m ys σ H => m = xs.length - i ∧ i ≤ xs.length ∧ Pv i ys σ H, ⟨xs.length, by simp, Nat.zero_le _, h0⟩, ?_⟩
  rintro i m ys σ H ⟨rfl, hi, p⟩
  have q := hl i ys σ H hi p
  by_cases hlt : i < xs.length
  · refine .inr ⟨⟨hlt, xs, q, rfl⟩, Pv (i + 1), fun ys' σ' H' p' => ⟨xs.length - (i + 1), by omega, rfl, hlt, p'⟩, fun x H' y => ?_⟩
    obtain ⟨e, y⟩ := y
    subst e
    exact hs i x ys σ _ (by rw [List.getElem?_reverse hlt]; exact y xs q) p
  · have e : i = xs.length := by omega
    subst e
    exact .inl ⟨rfl, hd ys σ H p⟩
end
end L3

set_option Elab.async false
set_option linter.all false
set_option maxRecDepth 100000
set_option maxHeartbeats 4000000
namespace L3
open PySem PySem.Spec PyProof.Rows L2 PySem.Builtin PySem.Builtin.Str

section
variable {X : Cx}
end

end L3

set_option Elab.async false
set_option linter.all false
set_option maxRecDepth 100000
set_option maxHeartbeats 4000000
namespace L3
open PySem PySem.Spec PyProof.Rows L2
section
variable {X : Cx}
end
end L3

set_option Elab.async false
set_option linter.all false
set_option maxRecDepth 100000
set_option maxHeartbeats 4000000
namespace L3
open PySem PySem.Spec PyProof.Rows L2
section
variable {X : Cx}
theorem flat_ints (ns : List Int) : (ns.map V.int).all flatV = true := by
  rw [List.all_eq_true]
  intro v hv
  obtain ⟨z, _, e⟩ := List.mem_map.mp hv
  rw [← e]
  rfl
end
end L3

set_option Elab.async false
set_option linter.all false
set_option maxRecDepth 100000
set_option maxHeartbeats 4000000
namespace L3
open PySem PySem.Spec PyProof.Rows L2
section
variable {X : Cx}
end
section
variable {K : PySem.W.Frag} {a b : Addr} {xs ys : List V} {g : TG} {tt : TT} {te : TE} {Q : VK} {D : Addr} {σ : St} {H : Hp}
end
end L3

set_option Elab.async false
set_option linter.all false
set_option maxRecDepth 100000
set_option maxHeartbeats 4000000
namespace L3
open PySem PySem.Spec PyProof.Rows L2
section
variable {P : Program} {w : World} {A : Around} {R : Result → Shared → Prop}
end
section
variable {X : Cx}
end

section
variable {X : Cx} {k : Nat} {f : Addr} {fd : FuncData} {ps : List Str} {sp : Sp} {dvs : List V} {ds : List Value} {x : Str} {p pos : Pos} {e : Expr} {es : List Expr} {t : TA}
end
end L3

set_option Elab.async false
set_option linter.all false
set_option maxRecDepth 100000
set_option maxHeartbeats 4000000
namespace Srt
open PySem PyProof.Rows
abbrev kv (p : Keyed) : Int := numOf p.1
def IntK (p : Keyed) : Prop := ∃ n t, p.1 = Value.int n t
def gal : Bool → Keyed → Array Keyed → Nat → Nat → Nat → StateT SortSt Sem (Option Nat) := sortPriv% PySem.Builtin.gallop
def byd (left : Bool) (key : Keyed) (arr : Array Keyed) (base i : Nat) : StateT SortSt Sem (Option Bool) := do
  let x ← elem' arr (base + i)
  if left then lt' x key else return (← lt' key x).map (!·)
theorem gal_eq (left : Bool) (key : Keyed) (arr : Array Keyed) (base n hint : Nat) : gal left key arr base n hint = (do
  let mut lastofs := 0
  let mut ofs := 1
  let mut lo := 0
  let mut hi := 0
  let some right ← byd left key arr base hint | return none
  if right then
    let maxofs := n - hint
    for _ in [0:n] do
      if ofs ≥ maxofs then break
      let some more ← byd left key arr base (hint + ofs) | return none
      if !more then break
      lastofs := ofs
      ofs := 2 * ofs + 1
    lo := hint + lastofs + 1
    hi := hint + min ofs maxofs
  else
    let maxofs := hint + 1
    for _ in [0:n] do
      if ofs ≥ maxofs then break
      let some found ← byd left key arr base (hint - ofs) | return none
      if found then break
      lastofs := ofs
      ofs := 2 * ofs + 1
    lo := hint + 1 - min ofs maxofs
    hi := hint - lastofs
  for _ in [0:n] do
    if lo ≥ hi then break
    let m := lo + (hi - lo) / 2
    let some more ← byd left key arr base m | return none
    if more then lo := m + 1 else hi := m
  return some hi) := rfl
section
variable {prog : Program} {w : World} {A : Around} {E : Value → Shared → Prop} {s : Shared}
theorem wp_elem {st : SortSt} {arr : Array Keyed} {i : Nat} {p : Keyed} {Q : Keyed → SortSt → Prop} (h : arr[i]? = some p) (q : Q p st) : wpS (model prog w) A E s (elem' arr i) Q st := by
  rw [elem'_eq, h]
  exact wpS_pure q
theorem wp_lt {st : SortSt} {x y : Keyed} {Q : Option Bool → SortSt → Prop} (hk : kindOf st = oneType') (hx : IntK x) (hy : IntK y) (q : Q (some (decide (kv x < kv y))) st) : wpS (model prog w) A E s (lt' x y) Q st := by
  obtain ⟨a, t, ha⟩ := hx
  obtain ⟨b, u, hb⟩ := hy
  rw [lt'_eq]
  refine wpS_bind (wpS_get ?_)
  rw [hk, keyLt'_oneType, ha, hb]
  refine wpS_bind (wpS_lift (wpAny_attempt (oneLt_int ⟨rfl, wpS_pure ?_⟩)))
  have e1 : kv x = a := by show numOf x.1 = a; rw [ha]; rfl
  have e2 : kv y = b := by show numOf y.1 = b; rw [hb]; rfl
  rw [e1, e2] at q
  exact q
structure Gal (left : Bool) (key : Keyed) (arr : Array Keyed) (base n : Nat) (b : Nat → Bool) : Prop where
  ik : IntK key
  at' : ∀ i, i < n → ∃ p, arr[base + i]? = some p ∧ IntK p ∧ b i = (if left then decide (kv p < kv key) else !decide (kv key < kv p))
  mono : ∀ i j, i ≤ j → j < n → b j = true → b i = true
theorem wp_byd {left : Bool} {key : Keyed} {arr : Array Keyed} {base n i : Nat} {b : Nat → Bool} {st : SortSt} {Q : Option Bool → SortSt → Prop} (G : Gal left key arr base n b) (hk : kindOf st = oneType') (hi : i < n) (q : Q (some (b i)) st) :
    wpS (model prog w) A E s (byd left key arr base i) Q st := by
  obtain ⟨p, hp, ip, e⟩ := G.at' i hi
  unfold byd
  refine wpS_bind (wp_elem hp ?_)
  cases left with
  | true =>
    rw [if_pos rfl] at e ⊢
    exact wp_lt hk ip G.ik (by rw [← e]; exact q)
  | false =>
    rw [if_neg (by decide)] at e ⊢
    refine wpS_bind (wp_lt hk G.ik ip (wpS_pure ?_))
    rw [e] at q
    exact q
theorem wp_gal {left : Bool} {key : Keyed} {arr : Array Keyed} {base n hint : Nat} {b : Nat → Bool} {st : SortSt} {Q : Option Nat → SortSt → Prop} (G : Gal left key arr base n b) (hk : kindOf st = oneType') (hh : hint < n)
    (q : ∀ k, k ≤ n → (∀ i, i < k → b i = true) → (∀ i, k ≤ i → i < n → b i = false) → Q (some k) st) : wpS (model prog w) A E s (gal left key arr base n hint) Q st := by
  rw [gal_eq]
  refine wpS_bind (wp_byd G hk hh ?_)
  dsimp only
  cases hr : b hint with
  | true =>
    rw [if_pos rfl]
    refine wpS_bind (wpS_mono (wpS_forRange (I := fun x c st' => st' = st ∧ ∃ l o, c = (none, l, o) ∧ l < o ∧ x < o ∧ hint + l < n ∧ b (hint + l) = true)
      (Q := fun c st' => st' = st ∧ ∃ l o, c = (none, l, o) ∧ l < o ∧ hint + l < n ∧ b (hint + l) = true ∧ (n - hint ≤ o ∨ (hint + o < n ∧ b (hint + o) = false))) ?_ ?_ ⟨rfl, 0, 1, rfl, by omega, by omega, hh, hr⟩) ?_)
    · rintro x c st' _ hx ⟨rfl, l, o, rfl, a1, a2, a3, a4⟩
      dsimp only
      by_cases hge : o ≥ n - hint
      · rw [if_pos hge]
        exact wpS_pure ⟨rfl, l, o, rfl, a1, a3, a4, .inl hge⟩
      · rw [if_neg hge]
        refine wpS_bind (wp_byd G hk (i := hint + o) (by omega) ?_)
        dsimp only
        cases hb : b (hint + o) with
        | true =>
          rw [if_neg (by decide)]
          exact wpS_pure ⟨rfl, o, 2 * o + 1, rfl, by omega, by omega, by omega, hb⟩
        | false =>
          rw [if_pos (by decide)]
          exact wpS_pure ⟨rfl, l, o, rfl, a1, a3, a4, .inr ⟨by omega, hb⟩⟩
    · rintro c st' ⟨rfl, l, o, rfl, a1, a2, a3, a4⟩
      exact ⟨rfl, l, o, rfl, a1, a3, a4, .inl (by omega)⟩
    · rintro c st'' ⟨hst, l, o, rfl, a1, a3, a4, a5⟩
      subst st''
      dsimp only
      have h1 : hint + l + 1 ≤ hint + min o (n - hint) := by omega
      have h2 : hint + min o (n - hint) ≤ n := by omega
      have h3 : ∀ i, i < hint + l + 1 → b i = true := fun i hi => G.mono i _ (by omega) a3 a4
      have h4 : ∀ i, hint + min o (n - hint) ≤ i → i < n → b i = false := fun i hi hin => by
        rcases a5 with z | ⟨z1, z2⟩
        · omega
        · cases hi' : b i
          · rfl
          · rw [G.mono (hint + o) i (by omega) hin hi'] at z2; cases z2
      clear a1 a3 a4 a5
      generalize hint + l + 1 = lo at *
      generalize hint + min o (n - hint) = hi at *
      refine wpS_bind (wpS_mono (wpS_forRange (I := fun x c st' => st' = st ∧ ∃ l h, c = (none, l, h) ∧ l ≤ h ∧ h ≤ n ∧ h - l ≤ n - x ∧ (∀ i, i < l → b i = true) ∧ (∀ i, h ≤ i → i < n → b i = false))
        (Q := fun c st' => st' = st ∧ ∃ l, c = (none, l, l) ∧ l ≤ n ∧ (∀ i, i < l → b i = true) ∧ (∀ i, l ≤ i → i < n → b i = false)) ?_ ?_ ⟨rfl, lo, hi, rfl, h1, h2, by omega, h3, h4⟩) ?_)
      · rintro x c st' _ hx ⟨rfl, l, h, rfl, a1, a2, a3, a4, a5⟩
        dsimp only
        by_cases hge : l ≥ h
        · rw [if_pos hge]
          obtain rfl : l = h := by omega
          exact wpS_pure ⟨rfl, l, rfl, a2, a4, a5⟩
        · rw [if_neg hge]
          refine wpS_bind (wp_byd G hk (i := l + (h - l) / 2) (by omega) ?_)
          dsimp only
          cases hb : b (l + (h - l) / 2) with
          | true =>
            rw [if_pos rfl]
            exact wpS_pure ⟨rfl, _, _, rfl, by omega, a2, by omega, fun i hi => G.mono i _ (by omega) (by omega) hb, a5⟩
          | false =>
            rw [if_neg (by decide)]
            refine wpS_pure ⟨rfl, _, _, rfl, by omega, by omega, by omega, a4, fun i hi hin => ?_⟩
            cases hi' : b i
            · rfl
            · rw [G.mono _ i hi hin hi'] at hb; cases hb
      · rintro c st' ⟨rfl, l, h, rfl, a1, a2, a3, a4, a5⟩
        obtain rfl : l = h := by omega
        exact ⟨rfl, l, rfl, a2, a4, a5⟩
      · rintro c st' ⟨rfl, l, rfl, a2, a4, a5⟩
        exact wpS_pure (q l a2 a4 a5)
  | false =>
    rw [if_neg (by decide)]
    refine wpS_bind (wpS_mono (wpS_forRange (I := fun x c st' => st' = st ∧ ∃ l o, c = (none, l, o) ∧ l < o ∧ x < o ∧ l ≤ hint ∧ b (hint - l) = false)
      (Q := fun c st' => st' = st ∧ ∃ l o, c = (none, l, o) ∧ l < o ∧ l ≤ hint ∧ b (hint - l) = false ∧ (hint + 1 ≤ o ∨ (o ≤ hint ∧ b (hint - o) = true))) ?_ ?_ ⟨rfl, 0, 1, rfl, by omega, by omega, by omega, hr⟩) ?_)
    · rintro x c st' _ hx ⟨rfl, l, o, rfl, a1, a2, a3, a4⟩
      dsimp only
      by_cases hge : o ≥ hint + 1
      · rw [if_pos hge]
        exact wpS_pure ⟨rfl, l, o, rfl, a1, a3, a4, .inl hge⟩
      · rw [if_neg hge]
        refine wpS_bind (wp_byd G hk (i := hint - o) (by omega) ?_)
        dsimp only
        cases hb : b (hint - o) with
        | true =>
          rw [if_pos rfl]
          exact wpS_pure ⟨rfl, l, o, rfl, a1, a3, a4, .inr ⟨by omega, hb⟩⟩
        | false =>
          rw [if_neg (by decide)]
          exact wpS_pure ⟨rfl, o, 2 * o + 1, rfl, by omega, by omega, by omega, hb⟩
    · rintro c st' ⟨rfl, l, o, rfl, a1, a2, a3, a4⟩
      exact ⟨rfl, l, o, rfl, a1, a3, a4, .inl (by omega)⟩
    · rintro c st'' ⟨hst, l, o, rfl, a1, a3, a4, a5⟩
      subst st''
      dsimp only
      have h1 : hint + 1 - min o (hint + 1) ≤ hint - l := by omega
      have h2 : hint - l ≤ n := by omega
      have h3 : ∀ i, i < hint + 1 - min o (hint + 1) → b i = true := fun i hi => by
        rcases a5 with z | ⟨z1, z2⟩
        · omega
        · exact G.mono i (hint - o) (by omega) (by omega) z2
      have h4 : ∀ i, hint - l ≤ i → i < n → b i = false := fun i hi hin => by
        cases hi' : b i
        · rfl
        · rw [G.mono (hint - l) i (by omega) hin hi'] at a4; cases a4
      clear a1 a3 a4 a5
      generalize hint + 1 - min o (hint + 1) = lo at *
      generalize hint - l = hi at *
      refine wpS_bind (wpS_mono (wpS_forRange (I := fun x c st' => st' = st ∧ ∃ l h, c = (none, l, h) ∧ l ≤ h ∧ h ≤ n ∧ h - l ≤ n - x ∧ (∀ i, i < l → b i = true) ∧ (∀ i, h ≤ i → i < n → b i = false))
        (Q := fun c st' => st' = st ∧ ∃ l, c = (none, l, l) ∧ l ≤ n ∧ (∀ i, i < l → b i = true) ∧ (∀ i, l ≤ i → i < n → b i = false)) ?_ ?_ ⟨rfl, lo, hi, rfl, h1, h2, by omega, h3, h4⟩) ?_)
      · rintro x c st' _ hx ⟨rfl, l, h, rfl, a1, a2, a3, a4, a5⟩
        dsimp only
        by_cases hge : l ≥ h
        · rw [if_pos hge]
          obtain rfl : l = h := by omega
          exact wpS_pure ⟨rfl, l, rfl, a2, a4, a5⟩
        · rw [if_neg hge]
          refine wpS_bind (wp_byd G hk (i := l + (h - l) / 2) (by omega) ?_)
          dsimp only
          cases hb : b (l + (h - l) / 2) with
          | true =>
            rw [if_pos rfl]
            exact wpS_pure ⟨rfl, _, _, rfl, by omega, a2, by omega, fun i hi => G.mono i _ (by omega) (by omega) hb, a5⟩
          | false =>
            rw [if_neg (by decide)]
            refine wpS_pure ⟨rfl, _, _, rfl, by omega, by omega, by omega, a4, fun i hi hin => ?_⟩
            cases hi' : b i
            · rfl
            · rw [G.mono _ i hi hin hi'] at hb; cases hb
      · rintro c st' ⟨rfl, l, h, rfl, a1, a2, a3, a4, a5⟩
        obtain rfl : l = h := by omega
        exact ⟨rfl, l, rfl, a2, a4, a5⟩
      · rintro c st' ⟨rfl, l, rfl, a2, a4, a5⟩
        exact wpS_pure (q l a2 a4 a5)
end
end Srt

set_option Elab.async false
set_option linter.all false
set_option maxRecDepth 100000
set_option maxHeartbeats 4000000
namespace Srt
open PySem PyProof.Rows
def Up (l : List Keyed) : Prop := l.Pairwise fun x y => kv x ≤ kv y
structure MI (out ra rb all : List Keyed) : Prop where
  perm : (out ++ ra ++ rb).Perm all
  so : Up out
  sa : Up ra
  sb : Up rb
  le : ∀ x ∈ out, ∀ y, y ∈ ra ∨ y ∈ rb → kv x ≤ kv y
theorem MI.moveA {out p ra rb all : List Keyed} (M : MI out (p ++ ra) rb all) (h : ∀ x ∈ p, ∀ y ∈ rb, kv x ≤ kv y) : MI (out ++ p) ra rb all := by
  obtain ⟨s1, s2, s3⟩ := List.pairwise_append.mp M.sa
  refine ⟨by rw [List.append_assoc out p ra]; exact M.perm, List.pairwise_append.mpr ⟨M.so, s1, fun x hx y hy => M.le x hx y (.inl (List.mem_append_left _ hy))⟩, s2, M.sb, fun x hx y hy => ?_⟩
  rcases List.mem_append.mp hx with z | z
  · rcases hy with w | w
    · exact M.le x z y (.inl (List.mem_append_right _ w))
    · exact M.le x z y (.inr w)
  · rcases hy with w | w
    · exact s3 x z y w
    · exact h x z y w
theorem MI.moveB {out p ra rb all : List Keyed} (M : MI out ra (p ++ rb) all) (h : ∀ x ∈ p, ∀ y ∈ ra, kv x ≤ kv y) : MI (out ++ p) ra rb all := by
  obtain ⟨s1, s2, s3⟩ := List.pairwise_append.mp M.sb
  refine ⟨?_, List.pairwise_append.mpr ⟨M.so, s1, fun x hx y hy => M.le x hx y (.inr (List.mem_append_left _ hy))⟩, M.sa, s2, fun x hx y hy => ?_⟩
  · refine List.Perm.trans ?_ M.perm
    rw [List.append_assoc out p, List.append_assoc out, List.append_assoc out, ← List.append_assoc ra p rb]
    exact List.Perm.append_left out (List.Perm.append_right rb List.perm_append_comm)
  rcases List.mem_append.mp hx with z | z
  · rcases hy with w | w
    · exact M.le x z y (.inl w)
    · exact M.le x z y (.inr (List.mem_append_right _ w))
  · rcases hy with w | w
    · exact h x z y w
    · exact s3 x z y w
def Good (all r : List Keyed) : Prop := r.Perm all ∧ Up r
theorem MI.done {out ra rb all : List Keyed} (M : MI out ra rb all) (h : ra = [] ∨ rb = []) : Good all (out ++ ra ++ rb) := by
  refine ⟨M.perm, ?_⟩
  have h1 : Up (out ++ ra) := List.pairwise_append.mpr ⟨M.so, M.sa, fun x hx y hy => M.le x hx y (.inl hy)⟩
  rcases h with z | z
  · rw [z, List.append_nil]
    exact List.pairwise_append.mpr ⟨M.so, M.sb, fun x hx y hy => M.le x hx y (.inr hy)⟩
  · rw [z, List.append_nil]
    exact h1
theorem MI.last {out rb all : List Keyed} {x : Keyed} (M : MI out [x] rb all) (h : ∀ y ∈ rb, kv y ≤ kv x) : Good all (out ++ rb ++ [x]) := by
  have M2 : MI out [x] (rb ++ []) all := by rw [List.append_nil]; exact M
  have M3 := M2.moveB fun y hy z hz => by rw [List.mem_singleton.mp hz]; exact h y hy
  have := M3.done (.inr rfl)
  rw [List.append_nil] at this
  exact this
theorem drop_at {a : Array Keyed} {i : Nat} (h : i < a.size) : a[i]? = some a[i] ∧ a.toList.drop i = a[i] :: a.toList.drop (i + 1) := by
  refine ⟨getElem?_pos a i h, ?_⟩
  rw [← List.getElem_cons_drop (as := a.toList) (i := i) (by rw [Array.length_toList]; exact h)]
  rfl
theorem ext_list (a : Array Keyed) (i j : Nat) : (a.extract i j).toList = (a.toList.drop i).take (j - i) := by
  rw [Array.toList_extract]
theorem ext_end (a : Array Keyed) (i : Nat) : (a.extract i a.size).toList = a.toList.drop i := by
  rw [ext_list, List.take_of_length_le (by rw [List.length_drop, Array.length_toList]; exact Nat.le_refl _)]
theorem drop_end {a : Array Keyed} {i : Nat} (h : i = a.size) : a.toList.drop i = [] := List.drop_eq_nil_of_le (by rw [Array.length_toList]; omega)
theorem drop_last {a : Array Keyed} {i : Nat} (h : i + 1 = a.size) : ∃ x, a.toList.drop i = [x] ∧ a[a.size - 1]? = some x := by
  obtain ⟨h1, h2⟩ := drop_at (a := a) (i := i) (by omega)
  rw [drop_end h] at h2
  exact ⟨_, h2, by rw [show a.size - 1 = i by omega]; exact h1⟩
theorem up_drop {l : List Keyed} (h : Up l) (i : Nat) : Up (l.drop i) := List.Pairwise.sublist (List.drop_sublist i l) h
theorem mem_drop {l : List Keyed} {i : Nat} {x : Keyed} (h : x ∈ l.drop i) : x ∈ l := List.mem_of_mem_drop h
def setMG : Nat → StateT SortSt Sem Unit := sortPriv% PySem.Builtin.setMinGallop
theorem setMG_eq (g : Nat) : setMG g = modify fun s => SortSt.mk' (kindOf s) (arrOf s) (pendingOf s) g (failedOf s) := rfl
def mlo : Array Keyed → Array Keyed → StateT SortSt Sem (Array Keyed) := sortPriv% PySem.Builtin.mergeLo
theorem mlo_eq (a b : Array Keyed) : mlo a b = (do
  rule "list.sort.merge-lo"
  let total := a.size + b.size
  let done (out : Array Keyed) (ia ib : Nat) := out ++ a.extract ia a.size ++ b.extract ib b.size
  let lastOfA (out : Array Keyed) (ia ib : Nat) := out ++ b.extract ib b.size ++ a.extract ia a.size
  let mut out : Array Keyed := #[← elem' b 0]
  let mut ia := 0
  let mut ib := 1
  if ib == b.size then return done out ia ib
  if ia + 1 == a.size then return lastOfA out ia ib
  let mut minGallop := gallopOf (← get)
  for _ in [0:total] do
    let mut acount := 0
    let mut bcount := 0
    for _ in [0:total] do
      let some bWins ← lt' (← elem' b ib) (← elem' a ia) | return done out ia ib
      if bWins then
        out := out.push (← elem' b ib); ib := ib + 1; bcount := bcount + 1; acount := 0
        if ib == b.size then return done out ia ib
        if bcount ≥ minGallop then break
      else
        out := out.push (← elem' a ia); ia := ia + 1; acount := acount + 1; bcount := 0
        if ia + 1 == a.size then return lastOfA out ia ib
        if acount ≥ minGallop then break
    rule "list.sort.gallop"
    minGallop := minGallop + 1
    for _ in [0:total] do
      if minGallop > 1 then minGallop := minGallop - 1
      setMG minGallop
      let some k ← gal false (← elem' b ib) a ia (a.size - ia) 0 | return done out ia ib
      acount := k
      if k > 0 then
        out := out ++ a.extract ia (ia + k); ia := ia + k
        if ia + 1 == a.size then return lastOfA out ia ib
        if ia == a.size then return done out ia ib
      out := out.push (← elem' b ib); ib := ib + 1
      if ib == b.size then return done out ia ib
      let some k ← gal true (← elem' a ia) b ib (b.size - ib) 0 | return done out ia ib
      bcount := k
      if k > 0 then
        out := out ++ b.extract ib (ib + k); ib := ib + k
        if ib == b.size then return done out ia ib
      out := out.push (← elem' a ia); ia := ia + 1
      if ia + 1 == a.size then return lastOfA out ia ib
      if acount < 7 && bcount < 7 then break
    minGallop := minGallop + 1
    setMG minGallop
  unsupported "internal:list.sort.merge-bound") := rfl
def Kept (st st' : SortSt) : Prop := kindOf st' = oneType' ∧ arrOf st' = arrOf st ∧ pendingOf st' = pendingOf st ∧ failedOf st' = none
theorem Kept.mg {st st' : SortSt} (h : Kept st st') (g : Nat) : Kept st (SortSt.mk' (kindOf st') (arrOf st') (pendingOf st') g (failedOf st')) := h
structure Two (a b : Array Keyed) : Prop where
  ia : ∀ x ∈ a.toList, IntK x
  ib : ∀ x ∈ b.toList, IntK x
  ua : Up a.toList
  ub : Up b.toList
  na : 0 < a.size
  nb : 0 < b.size
  first : ∀ y, b[0]? = some y → ∀ x ∈ a.toList, kv y ≤ kv x
  last : ∀ x, a[a.size - 1]? = some x → ∀ y ∈ b.toList, kv y ≤ kv x
structure Mid (a b out : Array Keyed) (ia ib : Nat) : Prop where
  mi : MI out.toList (a.toList.drop ia) (b.toList.drop ib) (a.toList ++ b.toList)
  ha : ia + 1 < a.size
  hb : ib < b.size
theorem Mid.pushB {a b out : Array Keyed} {ia ib : Nat} (hb : ib < b.size) (M : MI out.toList (a.toList.drop ia) (b.toList.drop ib) (a.toList ++ b.toList)) (h : ∀ x ∈ a.toList.drop ia, kv b[ib] ≤ kv x) :
    MI (out.push b[ib]).toList (a.toList.drop ia) (b.toList.drop (ib + 1)) (a.toList ++ b.toList) := by
  rw [Array.toList_push]
  refine MI.moveB (p := [b[ib]]) ?_ fun x hx y hy => by rw [List.mem_singleton.mp hx]; exact h y hy
  have e := (drop_at hb).2
  rw [e] at M
  exact M
theorem Mid.pushA {a b out : Array Keyed} {ia ib : Nat} (ha : ia < a.size) (M : MI out.toList (a.toList.drop ia) (b.toList.drop ib) (a.toList ++ b.toList)) (h : ∀ x ∈ b.toList.drop ib, kv a[ia] ≤ kv x) :
    MI (out.push a[ia]).toList (a.toList.drop (ia + 1)) (b.toList.drop ib) (a.toList ++ b.toList) := by
  rw [Array.toList_push]
  refine MI.moveA (p := [a[ia]]) ?_ fun x hx y hy => by rw [List.mem_singleton.mp hx]; exact h y hy
  have e := (drop_at ha).2
  rw [e] at M
  exact M
theorem Mid.leapA {a b out : Array Keyed} {ia ib k : Nat} (M : MI out.toList (a.toList.drop ia) (b.toList.drop ib) (a.toList ++ b.toList)) (h : ∀ x ∈ (a.toList.drop ia).take k, ∀ y ∈ b.toList.drop ib, kv x ≤ kv y) :
    MI (out ++ a.extract ia (ia + k)).toList (a.toList.drop (ia + k)) (b.toList.drop ib) (a.toList ++ b.toList) := by
  rw [Array.toList_append, ext_list, show ia + k - ia = k by omega]
  refine MI.moveA ?_ h
  rw [← List.drop_drop, List.take_append_drop]
  exact M
theorem Mid.leapB {a b out : Array Keyed} {ia ib k : Nat} (M : MI out.toList (a.toList.drop ia) (b.toList.drop ib) (a.toList ++ b.toList)) (h : ∀ x ∈ (b.toList.drop ib).take k, ∀ y ∈ a.toList.drop ia, kv x ≤ kv y) :
    MI (out ++ b.extract ib (ib + k)).toList (a.toList.drop ia) (b.toList.drop (ib + k)) (a.toList ++ b.toList) := by
  rw [Array.toList_append, ext_list, show ib + k - ib = k by omega]
  refine MI.moveB ?_ h
  rw [← List.drop_drop, List.take_append_drop]
  exact M
theorem fin_done {a b out : Array Keyed} {ia ib : Nat} (M : MI out.toList (a.toList.drop ia) (b.toList.drop ib) (a.toList ++ b.toList)) (h : ia = a.size ∨ ib = b.size) : Good (a.toList ++ b.toList) (out ++ a.extract ia a.size ++ b.extract ib b.size).toList := by
  rw [Array.toList_append, Array.toList_append, ext_end, ext_end]
  refine M.done ?_
  rcases h with z | z
  · exact .inl (drop_end z)
  · exact .inr (drop_end z)
theorem fin_last {a b out : Array Keyed} {ia ib : Nat} (T : Two a b) (M : MI out.toList (a.toList.drop ia) (b.toList.drop ib) (a.toList ++ b.toList)) (h : ia + 1 = a.size) : Good (a.toList ++ b.toList) (out ++ b.extract ib b.size ++ a.extract ia a.size).toList := by
  rw [Array.toList_append, Array.toList_append, ext_end, ext_end]
  obtain ⟨x, h1, h2⟩ := drop_last h
  rw [h1] at M ⊢
  exact M.last fun y hy => T.last x h2 y (mem_drop hy)
theorem head_le {a : Array Keyed} {i : Nat} (h : i < a.size) (u : Up a.toList) : ∀ x ∈ a.toList.drop i, kv a[i] ≤ kv x := fun x hx => by
  have u2 := up_drop u i
  rw [(drop_at h).2] at u2 hx
  rcases List.mem_cons.mp hx with z | z
  · rw [z]; exact Int.le_refl _
  · exact (List.pairwise_cons.mp u2).1 x z
theorem up_at {a : Array Keyed} (u : Up a.toList) {i j : Nat} (hi : i ≤ j) (hj : j < a.size) : kv a[i] ≤ kv a[j] := by
  by_cases z : i = j
  · subst z; exact Int.le_refl _
  · exact List.pairwise_iff_getElem.mp u i j (by rw [Array.length_toList]; omega) (by rw [Array.length_toList]; exact hj) (by omega)
theorem mem_at {a : Array Keyed} {i : Nat} (h : i < a.size) : a[i] ∈ a.toList := by simp
theorem gal_right {a : Array Keyed} {key : Keyed} {ia : Nat} (hi : ∀ x ∈ a.toList, IntK x) (u : Up a.toList) (hk : IntK key) (h : ia ≤ a.size) : Gal false key a ia (a.size - ia) (fun i => if h : ia + i < a.size then !decide (kv key < kv a[ia + i]) else false) := by
  refine ⟨hk, fun i hi' => ⟨a[ia + i], getElem?_pos a (ia + i) (by omega), hi _ (mem_at (by omega)), ?_⟩, fun i j hij hj e => ?_⟩
  · show (if h : ia + i < a.size then !decide (kv key < kv a[ia + i]) else false) = _
    rw [dif_pos (by omega)]
    rfl
  · rw [dif_pos (show ia + j < a.size by omega)] at e
    show (if h : ia + i < a.size then !decide (kv key < kv a[ia + i]) else false) = true
    rw [dif_pos (show ia + i < a.size by omega)]
    have m := up_at u (show ia + i ≤ ia + j by omega) (by omega)
    have e' : ¬ kv key < kv a[ia + j] := by simpa using e
    have : ¬ kv key < kv a[ia + i] := by omega
    simpa using this
theorem gal_left {a : Array Keyed} {key : Keyed} {ia : Nat} (hi : ∀ x ∈ a.toList, IntK x) (u : Up a.toList) (hk : IntK key) (h : ia ≤ a.size) : Gal true key a ia (a.size - ia) (fun i => if h : ia + i < a.size then decide (kv a[ia + i] < kv key) else false) := by
  refine ⟨hk, fun i hi' => ⟨a[ia + i], getElem?_pos a (ia + i) (by omega), hi _ (mem_at (by omega)), ?_⟩, fun i j hij hj e => ?_⟩
  · show (if h : ia + i < a.size then decide (kv a[ia + i] < kv key) else false) = _
    rw [dif_pos (by omega)]
    rfl
  · rw [dif_pos (show ia + j < a.size by omega)] at e
    show (if h : ia + i < a.size then decide (kv a[ia + i] < kv key) else false) = true
    rw [dif_pos (show ia + i < a.size by omega)]
    have m := up_at u (show ia + i ≤ ia + j by omega) (by omega)
    have e' : kv a[ia + j] < kv key := by simpa using e
    have : kv a[ia + i] < kv key := by omega
    simpa using this
theorem mem_part {a : Array Keyed} {i k : Nat} {x : Keyed} (h : x ∈ (a.toList.drop i).take k) : ∃ j, j < k ∧ ∃ hj : i + j < a.size, x = a[i + j] := by
  obtain ⟨j, hj, e⟩ := List.getElem_of_mem h
  rw [List.length_take, List.length_drop, Array.length_toList] at hj
  refine ⟨j, by omega, by omega, ?_⟩
  rw [← e, List.getElem_take, List.getElem_drop]
  rfl
theorem mem_rest {a : Array Keyed} {i : Nat} {x : Keyed} (h : x ∈ a.toList.drop i) : ∃ j, i ≤ j ∧ ∃ hj : j < a.size, x = a[j] := by
  obtain ⟨j, hj, e⟩ := List.getElem_of_mem h
  rw [List.length_drop, Array.length_toList] at hj
  refine ⟨i + j, by omega, by omega, ?_⟩
  rw [← e, List.getElem_drop]
  rfl
theorem mem_rest2 {a : Array Keyed} {i k : Nat} {x : Keyed} (h : x ∈ a.toList.drop (i + k)) : ∃ d, k ≤ d ∧ ∃ hd : i + d < a.size, x = a[i + d] := by
  obtain ⟨j, hj, e⟩ := List.getElem_of_mem h
  rw [List.length_drop, Array.length_toList] at hj
  refine ⟨k + j, by omega, by omega, ?_⟩
  rw [← e, List.getElem_drop]
  show a[i + k + j] = a[i + (k + j)]
  congr 1
  omega
section
variable {prog : Program} {w : World} {A : Around} {E : Value → Shared → Prop} {s : Shared}
theorem wp_ite {c : Prop} [Decidable c] {σ α : Type} {m1 m2 : StateT σ Sem α} {Q : α → σ → Prop} {st : σ} (h1 : c → wpS (model prog w) A E s m1 Q st) (h2 : ¬ c → wpS (model prog w) A E s m2 Q st) : wpS (model prog w) A E s (if c then m1 else m2) Q st := by
  by_cases h : c
  · rw [if_pos h]; exact h1 h
  · rw [if_neg h]; exact h2 h
theorem wp_setMG {g : Nat} {st0 st : SortSt} {Q : Unit → SortSt → Prop} (hk : Kept st0 st) (h : ∀ st', Kept st0 st' → Q () st') : wpS (model prog w) A E s (setMG g) Q st := by
  rw [setMG_eq]
  exact wpS_modify (h _ (hk.mg g))
theorem wp_mlo {a b : Array Keyed} {st : SortSt} {Q : Array Keyed → SortSt → Prop} (T : Two a b) (hk : Kept st st) (q : ∀ r st', Good (a.toList ++ b.toList) r.toList → Kept st st' → Q r st') : wpS (model prog w) A E s (mlo a b) Q st := by
  rw [mlo_eq]
  have hA := T.na
  have hB := T.nb
  refine wpS_bind (wpS_lift (wpAny_rule ⟨rfl, ?_⟩))
  dsimp only
  refine wpS_bind (wp_elem (drop_at hB).1 ?_)
  have M0 : MI (#[] : Array Keyed).toList (a.toList.drop 0) (b.toList.drop 0) (a.toList ++ b.toList) := ⟨List.Perm.refl _, List.Pairwise.nil, T.ua, T.ub, fun x hx => by cases hx⟩
  have M1 := Mid.pushB hB M0 fun x hx => T.first _ (drop_at hB).1 x hx
  have e0 : (#[] : Array Keyed).push b[0] = #[b[0]] := rfl
  rw [e0] at M1
  by_cases hb1 : 1 = b.size
  · rw [if_pos (by simpa using hb1)]
    exact wpS_pure (q _ _ (fin_done M1 (.inr hb1)) hk)
  rw [if_neg (by simpa using hb1)]
  by_cases ha1 : 0 + 1 = a.size
  · rw [if_pos (by simpa using ha1)]
    exact wpS_pure (q _ _ (fin_last T M1 ha1) hk)
  rw [if_neg (by simpa using ha1)]
  refine wpS_bind (wpS_get ?_)
  have M2 : Mid a b #[b[0]] 0 1 := ⟨M1, by omega, by omega⟩
  refine wpS_bind (wpS_mono (wpS_forRange
    (I := fun x c st' => Kept st st' ∧ ∃ out ia ib mg, c = (none, out, ia, ib, mg) ∧ Mid a b out ia ib ∧ x < ia + ib)
    (Q := fun c st' => Kept st st' ∧ ∃ r out ia ib mg, c = (some r, out, ia, ib, mg) ∧ Good (a.toList ++ b.toList) r.toList) ?step ?fin ⟨hk, _, _, _, _, rfl, M2, by omega⟩) ?post)
  case fin =>
    rintro c st' ⟨_, out, ia, ib, mg, rfl, M, hx⟩
    have := M.ha; have := M.hb
    omega
  case post =>
    rintro c st' ⟨hk', r, out, ia, ib, mg, rfl, g⟩
    exact wpS_pure (q r st' g hk')
  case step =>
    rintro x c st1 _ hx ⟨hk1, out, ia, ib, mg, rfl, M, hlt⟩
    dsimp only
    refine wpS_bind (wpS_mono (wpS_forRange
      (I := fun y c st' => st' = st1 ∧ ∃ out ia ib ac bc, c = (none, out, ia, ib, ac, bc) ∧ Mid a b out ia ib ∧ x + y < ia + ib)
      (Q := fun c st' => st' = st1 ∧ ((∃ r out ia ib ac bc, c = (some r, out, ia, ib, ac, bc) ∧ Good (a.toList ++ b.toList) r.toList) ∨ ∃ out ia ib ac bc, c = (none, out, ia, ib, ac, bc) ∧ Mid a b out ia ib ∧ x + 1 < ia + ib)) ?step1 ?fin1 ⟨rfl, _, _, _, _, _, rfl, M, by omega⟩) ?post1)
    case fin1 =>
      rintro c st' ⟨_, out, ia, ib, ac, bc, rfl, M, hx⟩
      have := M.ha; have := M.hb
      omega
    case step1 =>
      rintro y c st' _ hy ⟨rfl, out, ia, ib, ac, bc, rfl, M, hlt⟩
      have ha := M.ha
      have hb := M.hb
      dsimp only
      refine wpS_bind (wp_elem (drop_at hb).1 (wpS_bind (wp_elem (drop_at (show ia < a.size by omega)).1 (wpS_bind (wp_lt hk1.1 (T.ib _ (mem_at hb)) (T.ia _ (mem_at (by omega))) ?_)))))
      dsimp only
      by_cases hw : kv b[ib] < kv a[ia]
      · rw [if_pos (by simpa using hw)]
        refine wpS_bind (wp_elem (drop_at hb).1 ?_)
        have N := Mid.pushB hb M.mi fun x hx => by have := head_le (show ia < a.size by omega) T.ua x hx; omega
        by_cases he : ib + 1 = b.size
        · rw [if_pos (by simpa using he)]
          exact wpS_pure ⟨rfl, .inl ⟨_, _, _, _, _, _, rfl, fin_done N (.inr he)⟩⟩
        · rw [if_neg (by simpa using he)]
          by_cases hg : bc + 1 ≥ mg
          · rw [if_pos hg]
            exact wpS_pure ⟨rfl, .inr ⟨_, _, _, _, _, rfl, ⟨N, ha, by omega⟩, by omega⟩⟩
          · rw [if_neg hg]
            exact wpS_pure ⟨rfl, _, _, _, _, _, rfl, ⟨N, ha, by omega⟩, by omega⟩
      · rw [if_neg (by simpa using hw)]
        refine wpS_bind (wp_elem (drop_at (show ia < a.size by omega)).1 ?_)
        have N := Mid.pushA (show ia < a.size by omega) M.mi fun x hx => by have := head_le hb T.ub x hx; omega
        by_cases he : ia + 1 + 1 = a.size
        · rw [if_pos (by simpa using he)]
          exact wpS_pure ⟨rfl, .inl ⟨_, _, _, _, _, _, rfl, fin_last T N he⟩⟩
        · rw [if_neg (by simpa using he)]
          by_cases hg : ac + 1 ≥ mg
          · rw [if_pos hg]
            exact wpS_pure ⟨rfl, .inr ⟨_, _, _, _, _, rfl, ⟨N, by omega, hb⟩, by omega⟩⟩
          · rw [if_neg hg]
            exact wpS_pure ⟨rfl, _, _, _, _, _, rfl, ⟨N, by omega, hb⟩, by omega⟩
    case post1 =>
      rintro c st' ⟨rfl, ⟨r, out, ia, ib, ac, bc, rfl, g⟩ | ⟨out, ia, ib, ac, bc, rfl, M, hlt⟩⟩
      · exact wpS_pure ⟨hk1, r, out, ia, ib, mg, rfl, g⟩
      dsimp only
      refine wpS_bind (wpS_lift (wpAny_rule ⟨rfl, ?_⟩))
      refine wpS_bind (wpS_mono (wpS_forRange
        (I := fun y c st' => Kept st st' ∧ ∃ out ia ib mg ac bc, c = (none, out, ia, ib, mg, ac, bc) ∧ Mid a b out ia ib ∧ x + 1 + y < ia + ib)
        (Q := fun c st' => Kept st st' ∧ ((∃ r out ia ib mg ac bc, c = (some r, out, ia, ib, mg, ac, bc) ∧ Good (a.toList ++ b.toList) r.toList) ∨ ∃ out ia ib mg ac bc, c = (none, out, ia, ib, mg, ac, bc) ∧ Mid a b out ia ib ∧ x + 1 < ia + ib)) ?step2 ?fin2 ⟨hk1, _, _, _, _, _, _, rfl, M, by omega⟩) ?post2)
      case fin2 =>
        rintro c st' ⟨_, out, ia, ib, mg, ac, bc, rfl, M, hx⟩
        have := M.ha; have := M.hb
        omega
      case post2 =>
        rintro c st' ⟨hk2, ⟨r, out, ia, ib, mg, ac, bc, rfl, g⟩ | ⟨out, ia, ib, mg, ac, bc, rfl, M, hlt⟩⟩
        · exact wpS_pure ⟨hk2, r, out, ia, ib, mg, rfl, g⟩
        · dsimp only
          rw [setMG_eq]
          exact wpS_bind (wpS_modify (wpS_pure ⟨hk2.mg _, _, _, _, _, rfl, M, by omega⟩))
      case step2 =>
        rintro y c st2 _ hy ⟨hk2, out, ia, ib, mg, ac, bc, rfl, M, hlt⟩
        dsimp only
        have ha := M.ha
        have hb := M.hb
        refine' (fun (hh : ∀ m2 : Nat, (_ : Nat → Prop) m2) => ?one) ?two
        case one =>
          by_cases hm : mg > 1
          · rw [if_pos hm]; generalize mg - 1 = m2; revert m2; exact hh
          · rw [if_neg hm]; generalize mg = m2; revert m2; exact hh
        case two =>
          intro mg
          refine wpS_bind (wp_setMG hk2 fun st3 hk3 => ?_)
          refine wpS_bind (wp_elem (drop_at hb).1 ?_)
          refine wpS_bind (wp_gal (gal_right T.ia T.ua (T.ib _ (mem_at hb)) (show ia ≤ a.size by omega)) hk3.1 (show 0 < a.size - ia by omega) fun k hkn hlo hhi => ?_)
          dsimp only
          have fa : ∀ x ∈ (a.toList.drop ia).take k, ∀ y ∈ b.toList.drop ib, kv x ≤ kv y := fun x hx y hy => by
            obtain ⟨j, hj, hja, rfl⟩ := mem_part hx
            have e := hlo j hj
            rw [dif_pos hja] at e
            have e' : ¬ kv b[ib] < kv a[ia + j] := by simpa using e
            have := head_le hb T.ub y hy
            omega
          have fb : ∀ x ∈ a.toList.drop (ia + k), kv b[ib] ≤ kv x := fun x hx => by
            obtain ⟨j, hj, hja, rfl⟩ := mem_rest2 hx
            have e := hhi j hj (by omega)
            rw [dif_pos hja] at e
            have e' : kv b[ib] < kv a[ia + j] := by simpa using e
            omega
          have N := Mid.leapA (k := k) M.mi fa
          refine' (fun (hh : ∀ (k i2 : Nat) (o2 : Array Keyed), (_ : Nat → Nat → Array Keyed → Prop) k i2 o2) => ?one2) ?two2
          case one2 =>
            by_cases hk0 : k > 0
            · rw [if_pos hk0]
              by_cases he : ia + k + 1 = a.size
              · rw [if_pos (by simpa using he)]
                exact wpS_pure ⟨hk3, .inl ⟨_, _, _, _, _, _, _, rfl, fin_last T N he⟩⟩
              rw [if_neg (by simpa using he)]
              by_cases he2 : ia + k = a.size
              · rw [if_pos (by simpa using he2)]
                exact wpS_pure ⟨hk3, .inl ⟨_, _, _, _, _, _, _, rfl, fin_done N (.inl he2)⟩⟩
              rw [if_neg (by simpa using he2)]
              have P1 := N
              have P2 : ia + k + 1 < a.size := by omega
              have P3 := fb
              have P4 : x + 1 + y < ia + k + ib := by omega
              generalize out ++ a.extract ia (ia + k) = o2 at P1 ⊢
              generalize ia + k = i2 at P1 P2 P3 P4 ⊢
              generalize k = k' at P1 P2 P3 P4 ⊢
              revert P4; revert P3; revert P2; revert P1
              exact hh k' i2 o2
            · rw [if_neg hk0]
              have hk00 : k = 0 := by omega
              have P1 := M.mi
              have P2 := ha
              have P3 : ∀ x ∈ a.toList.drop ia, kv b[ib] ≤ kv x := fun x hx => fb x (by rw [hk00]; exact hx)
              have P4 := hlt
              revert P4; revert P3; revert P2; revert P1
              exact hh k ia out
          case two2 =>
            clear N fb fa hlo hhi hlt M hkn ha
            intro k i2 o2 P1 P2 P3 P4
            refine wpS_bind (wp_elem (drop_at hb).1 ?_)
            have N2 := Mid.pushB hb P1 P3
            by_cases he : ib + 1 = b.size
            · rw [if_pos (by simpa using he)]
              exact wpS_pure ⟨hk3, .inl ⟨_, _, _, _, _, _, _, rfl, fin_done N2 (.inr he)⟩⟩
            rw [if_neg (by simpa using he)]
            have hi2 : i2 < a.size := by omega
            refine wpS_bind (wp_elem (drop_at hi2).1 ?_)
            refine wpS_bind (wp_gal (gal_left T.ib T.ub (T.ia _ (mem_at hi2)) (show ib + 1 ≤ b.size by omega)) hk3.1 (show 0 < b.size - (ib + 1) by omega) fun k2 hkn2 hlo2 hhi2 => ?_)
            dsimp only
            have ga : ∀ x ∈ (b.toList.drop (ib + 1)).take k2, ∀ y ∈ a.toList.drop i2, kv x ≤ kv y := fun x hx y hy => by
              obtain ⟨j, hj, hja, rfl⟩ := mem_part hx
              have e := hlo2 j hj
              rw [dif_pos hja] at e
              have e' : kv b[ib + 1 + j] < kv a[i2] := by simpa using e
              have := head_le hi2 T.ua y hy
              omega
            have gb : ∀ x ∈ b.toList.drop (ib + 1 + k2), kv a[i2] ≤ kv x := fun x hx => by
              obtain ⟨j, hj, hja, rfl⟩ := mem_rest2 hx
              have e := hhi2 j hj (by omega)
              rw [dif_pos hja] at e
              have e' : ¬ kv b[ib + 1 + j] < kv a[i2] := by simpa using e
              omega
            have N3 := Mid.leapB (k := k2) N2 ga
            refine' (fun (hh : ∀ (k2 j2 : Nat) (o3 : Array Keyed), (_ : Nat → Nat → Array Keyed → Prop) k2 j2 o3) => ?one3) ?two3
            case one3 =>
              by_cases hk20 : k2 > 0
              · rw [if_pos hk20]
                by_cases he2 : ib + 1 + k2 = b.size
                · rw [if_pos (by simpa using he2)]
                  exact wpS_pure ⟨hk3, .inl ⟨_, _, _, _, _, _, _, rfl, fin_done N3 (.inr he2)⟩⟩
                rw [if_neg (by simpa using he2)]
                have R1 := N3
                have R2 : ib + 1 + k2 < b.size := by omega
                have R3 := gb
                have R4 : x + 1 + y + 1 < i2 + (ib + 1 + k2) := by omega
                generalize o2.push b[ib] ++ b.extract (ib + 1) (ib + 1 + k2) = o3 at R1 ⊢
                generalize ib + 1 + k2 = j2 at R1 R2 R3 R4 ⊢
                generalize k2 = k' at R1 R2 R3 R4 ⊢
                revert R4; revert R3; revert R2; revert R1
                exact hh k' j2 o3
              · rw [if_neg hk20]
                have hk00 : k2 = 0 := by omega
                have R1 := N2
                have R2 : ib + 1 < b.size := by omega
                have R3 : ∀ x ∈ b.toList.drop (ib + 1), kv a[i2] ≤ kv x := fun x hx => gb x (by rw [hk00]; exact hx)
                have R4 : x + 1 + y + 1 < i2 + (ib + 1) := by omega
                revert R4; revert R3; revert R2; revert R1
                exact hh k2 (ib + 1) (o2.push b[ib])
            case two3 =>
              clear N3 gb ga hlo2 hhi2 N2 hkn2
              intro k2 j2 o3 R1 R2 R3 R4
              refine wpS_bind (wp_elem (drop_at hi2).1 ?_)
              have N4 := Mid.pushA hi2 R1 R3
              by_cases he3 : i2 + 1 + 1 = a.size
              · rw [if_pos (by simpa using he3)]
                exact wpS_pure ⟨hk3, .inl ⟨_, _, _, _, _, _, _, rfl, fin_last T N4 he3⟩⟩
              rw [if_neg (by simpa using he3)]
              refine wp_ite (fun _ => ?_) (fun _ => ?_)
              · exact wpS_pure ⟨hk3, .inr ⟨_, _, _, _, _, _, rfl, ⟨N4, by omega, R2⟩, by omega⟩⟩
              · exact wpS_pure ⟨hk3, _, _, _, _, _, _, rfl, ⟨N4, by omega, R2⟩, by omega⟩
end
end Srt

set_option Elab.async false
set_option linter.all false
set_option maxRecDepth 100000
set_option maxHeartbeats 4000000
namespace Srt
open PySem PyProof.Rows
structure MH (ra rb out all : List Keyed) : Prop where
  perm : (ra ++ rb ++ out).Perm all
  so : Up out
  sa : Up ra
  sb : Up rb
  le : ∀ y ∈ out, ∀ x, x ∈ ra ∨ x ∈ rb → kv x ≤ kv y
theorem MH.moveA {out p ra rb all : List Keyed} (M : MH (ra ++ p) rb out all) (h : ∀ x ∈ p, ∀ y ∈ rb, kv y ≤ kv x) : MH ra rb (p ++ out) all := by
  obtain ⟨s1, s2, s3⟩ := List.pairwise_append.mp M.sa
  refine ⟨?_, List.pairwise_append.mpr ⟨s2, M.so, fun x hx y hy => M.le y hy x (.inl (List.mem_append_right _ hx))⟩, s1, M.sb, fun y hy x hx => ?_⟩
  · refine List.Perm.trans ?_ M.perm
    rw [← List.append_assoc]
    refine List.Perm.append_right out ?_
    rw [List.append_assoc, List.append_assoc]
    exact List.Perm.append_left ra List.perm_append_comm
  rcases List.mem_append.mp hy with z | z
  · rcases hx with w | w
    · exact s3 x w y z
    · exact h y z x w
  · rcases hx with w | w
    · exact M.le y z x (.inl (List.mem_append_left _ w))
    · exact M.le y z x (.inr w)
theorem MH.moveB {out p ra rb all : List Keyed} (M : MH ra (rb ++ p) out all) (h : ∀ x ∈ p, ∀ y ∈ ra, kv y ≤ kv x) : MH ra rb (p ++ out) all := by
  obtain ⟨s1, s2, s3⟩ := List.pairwise_append.mp M.sb
  refine ⟨?_, List.pairwise_append.mpr ⟨s2, M.so, fun x hx y hy => M.le y hy x (.inr (List.mem_append_right _ hx))⟩, M.sa, s1, fun y hy x hx => ?_⟩
  · have := M.perm
    rw [← List.append_assoc ra rb p] at this
    rw [← List.append_assoc]
    exact this
  rcases List.mem_append.mp hy with z | z
  · rcases hx with w | w
    · exact h y z x w
    · exact s3 x w y z
  · rcases hx with w | w
    · exact M.le y z x (.inl w)
    · exact M.le y z x (.inr (List.mem_append_left _ w))
theorem MH.done {out ra rb all : List Keyed} (M : MH ra rb out all) (h : ra = [] ∨ rb = []) : Good all (ra ++ rb ++ out) := by
  refine ⟨M.perm, ?_⟩
  rcases h with z | z
  · rw [z, List.nil_append]
    exact List.pairwise_append.mpr ⟨M.sb, M.so, fun x hx y hy => M.le y hy x (.inr hx)⟩
  · rw [z, List.append_nil]
    exact List.pairwise_append.mpr ⟨M.sa, M.so, fun x hx y hy => M.le y hy x (.inl hx)⟩
theorem MH.first {out ra all : List Keyed} {x : Keyed} (M : MH ra [x] out all) (h : ∀ y ∈ ra, kv x ≤ kv y) : Good all ([x] ++ ra ++ out) := by
  have M2 : MH ([] ++ ra) [x] out all := M
  have M3 := M2.moveA fun y hy z hz => by rw [List.mem_singleton.mp hz]; exact h y hy
  have := M3.done (.inl rfl)
  rw [List.nil_append, ← List.append_assoc] at this
  exact this
theorem take_at {a : Array Keyed} {i : Nat} (h : i < a.size) : a.toList.take (i + 1) = a.toList.take i ++ [a[i]] := by
  rw [List.take_succ_eq_append_getElem (by rw [Array.length_toList]; exact h)]
  rfl
theorem ext_begin (a : Array Keyed) (n : Nat) : (a.extract 0 n).toList = a.toList.take n := by
  rw [ext_list, List.drop_zero, Nat.sub_zero]
theorem take_part (a : Array Keyed) {i n : Nat} (h : i ≤ n) : a.toList.take n = a.toList.take i ++ (a.extract i n).toList := by
  have e : n = i + (n - i) := by omega
  rw [ext_list]
  conv => lhs; rw [e]
  exact List.take_add
theorem mem_take {a : Array Keyed} {n : Nat} {x : Keyed} (h : x ∈ a.toList.take n) : ∃ j, j < n ∧ ∃ hj : j < a.size, x = a[j] := by
  obtain ⟨j, hj, e⟩ := List.getElem_of_mem h
  rw [List.length_take, Array.length_toList] at hj
  refine ⟨j, by omega, by omega, ?_⟩
  rw [← e, List.getElem_take]
  rfl
theorem mem_ext {a : Array Keyed} {i n : Nat} {x : Keyed} (h : x ∈ (a.extract i n).toList) : ∃ j, i ≤ j ∧ j < n ∧ ∃ hj : j < a.size, x = a[j] := by
  rw [ext_list] at h
  obtain ⟨j, hj, h1, rfl⟩ := mem_part h
  exact ⟨i + j, by omega, by omega, h1, rfl⟩
structure Hid (a b out : Array Keyed) (na nb : Nat) : Prop where
  mh : MH (a.toList.take na) (b.toList.take nb) out.toList.reverse (a.toList ++ b.toList)
  ha : na ≤ a.size
  hb : nb ≤ b.size
  na : 1 ≤ na
  nb : 2 ≤ nb
theorem Hid.pushA {a b out : Array Keyed} {na nb : Nat} (ha : na < a.size) (M : MH (a.toList.take (na + 1)) (b.toList.take nb) out.toList.reverse (a.toList ++ b.toList)) (h : ∀ x ∈ b.toList.take nb, kv x ≤ kv a[na]) :
    MH (a.toList.take na) (b.toList.take nb) (out.push a[na]).toList.reverse (a.toList ++ b.toList) := by
  rw [Array.toList_push, List.reverse_append]
  rw [take_at ha] at M
  exact M.moveA fun x hx y hy => by rw [List.mem_singleton.mp hx]; exact h y hy
theorem Hid.pushB {a b out : Array Keyed} {na nb : Nat} (hb : nb < b.size) (M : MH (a.toList.take na) (b.toList.take (nb + 1)) out.toList.reverse (a.toList ++ b.toList)) (h : ∀ x ∈ a.toList.take na, kv x ≤ kv b[nb]) :
    MH (a.toList.take na) (b.toList.take nb) (out.push b[nb]).toList.reverse (a.toList ++ b.toList) := by
  rw [Array.toList_push, List.reverse_append]
  rw [take_at hb] at M
  exact M.moveB fun x hx y hy => by rw [List.mem_singleton.mp hx]; exact h y hy
theorem Hid.leapA {a b out : Array Keyed} {na nb i : Nat} (hi : i ≤ na) (M : MH (a.toList.take na) (b.toList.take nb) out.toList.reverse (a.toList ++ b.toList)) (h : ∀ x ∈ (a.extract i na).toList, ∀ y ∈ b.toList.take nb, kv y ≤ kv x) :
    MH (a.toList.take i) (b.toList.take nb) (out ++ (a.extract i na).reverse).toList.reverse (a.toList ++ b.toList) := by
  rw [Array.toList_append, Array.toList_reverse, List.reverse_append, List.reverse_reverse]
  rw [take_part a hi] at M
  exact M.moveA h
theorem Hid.leapB {a b out : Array Keyed} {na nb i : Nat} (hi : i ≤ nb) (M : MH (a.toList.take na) (b.toList.take nb) out.toList.reverse (a.toList ++ b.toList)) (h : ∀ x ∈ (b.extract i nb).toList, ∀ y ∈ a.toList.take na, kv y ≤ kv x) :
    MH (a.toList.take na) (b.toList.take i) (out ++ (b.extract i nb).reverse).toList.reverse (a.toList ++ b.toList) := by
  rw [Array.toList_append, Array.toList_reverse, List.reverse_append, List.reverse_reverse]
  rw [take_part b hi] at M
  exact M.moveB h
theorem fin_doneH {a b out : Array Keyed} {na nb : Nat} (M : MH (a.toList.take na) (b.toList.take nb) out.toList.reverse (a.toList ++ b.toList)) (h : na = 0 ∨ nb = 0) : Good (a.toList ++ b.toList) (a.extract 0 na ++ b.extract 0 nb ++ out.reverse).toList := by
  rw [Array.toList_append, Array.toList_append, ext_begin, ext_begin, Array.toList_reverse]
  refine M.done ?_
  rcases h with z | z
  · exact .inl (by rw [z, List.take_zero])
  · exact .inr (by rw [z, List.take_zero])
theorem fin_firstH {a b out : Array Keyed} {na nb : Nat} (T : Two a b) (M : MH (a.toList.take na) (b.toList.take nb) out.toList.reverse (a.toList ++ b.toList)) (h : nb = 1) : Good (a.toList ++ b.toList) (b.extract 0 nb ++ a.extract 0 na ++ out.reverse).toList := by
  rw [Array.toList_append, Array.toList_append, ext_begin, ext_begin, Array.toList_reverse]
  have e : b.toList.take nb = [b[0]'T.nb] := by
    rw [h]
    exact take_at T.nb
  rw [e] at M ⊢
  exact M.first fun y hy => T.first _ (drop_at T.nb).1 y (List.mem_of_mem_take hy)
theorem last_ge {a : Array Keyed} {n : Nat} (h : n < a.size) (u : Up a.toList) : ∀ x ∈ a.toList.take (n + 1), kv x ≤ kv a[n] := fun x hx => by
  obtain ⟨j, hj, hja, rfl⟩ := mem_take hx
  exact up_at u (show j ≤ n by omega) h
theorem galR {a : Array Keyed} {key : Keyed} {n : Nat} (hi : ∀ x ∈ a.toList, IntK x) (u : Up a.toList) (hk : IntK key) (h : n ≤ a.size) : Gal false key a 0 n (fun i => if h : 0 + i < a.size then !decide (kv key < kv a[0 + i]) else false) := by
  have g := gal_right (key := key) (ia := 0) hi u hk (Nat.zero_le _)
  exact ⟨hk, fun i hi' => g.at' i (by omega), fun i j hij hj => g.mono i j hij (by omega)⟩
theorem galL {a : Array Keyed} {key : Keyed} {n : Nat} (hi : ∀ x ∈ a.toList, IntK x) (u : Up a.toList) (hk : IntK key) (h : n ≤ a.size) : Gal true key a 0 n (fun i => if h : 0 + i < a.size then decide (kv a[0 + i] < kv key) else false) := by
  have g := gal_left (key := key) (ia := 0) hi u hk (Nat.zero_le _)
  exact ⟨hk, fun i hi' => g.at' i (by omega), fun i j hij hj => g.mono i j hij (by omega)⟩
def mhi : Array Keyed → Array Keyed → StateT SortSt Sem (Array Keyed) := sortPriv% PySem.Builtin.mergeHi
theorem mhi_eq (a b : Array Keyed) : mhi a b = (do
  rule "list.sort.merge-hi"
  let total := a.size + b.size
  let done (out : Array Keyed) (na nb : Nat) := a.extract 0 na ++ b.extract 0 nb ++ out.reverse
  let firstOfB (out : Array Keyed) (na nb : Nat) := b.extract 0 nb ++ a.extract 0 na ++ out.reverse
  let mut na := a.size - 1
  let mut nb := b.size
  let mut out : Array Keyed := #[← elem' a na]
  if na == 0 then return done out na nb
  if nb == 1 then return firstOfB out na nb
  let mut minGallop := gallopOf (← get)
  for _ in [0:total] do
    let mut acount := 0
    let mut bcount := 0
    for _ in [0:total] do
      let some aWins ← lt' (← elem' b (nb - 1)) (← elem' a (na - 1)) | return done out na nb
      if aWins then
        na := na - 1; out := out.push (← elem' a na); acount := acount + 1; bcount := 0
        if na == 0 then return done out na nb
        if acount ≥ minGallop then break
      else
        nb := nb - 1; out := out.push (← elem' b nb); bcount := bcount + 1; acount := 0
        if nb == 1 then return firstOfB out na nb
        if bcount ≥ minGallop then break
    rule "list.sort.gallop"
    minGallop := minGallop + 1
    for _ in [0:total] do
      if minGallop > 1 then minGallop := minGallop - 1
      setMG minGallop
      let some at_ ← gal false (← elem' b (nb - 1)) a 0 na (na - 1) | return done out na nb
      let k := na - at_
      acount := k
      if k > 0 then
        out := out ++ (a.extract at_ na).reverse; na := at_
        if na == 0 then return done out na nb
      nb := nb - 1; out := out.push (← elem' b nb)
      if nb == 1 then return firstOfB out na nb
      let some at_ ← gal true (← elem' a (na - 1)) b 0 nb (nb - 1) | return done out na nb
      let k := nb - at_
      bcount := k
      if k > 0 then
        out := out ++ (b.extract at_ nb).reverse; nb := at_
        if nb == 1 then return firstOfB out na nb
        if nb == 0 then return done out na nb
      na := na - 1; out := out.push (← elem' a na)
      if na == 0 then return done out na nb
      if acount < 7 && bcount < 7 then break
    minGallop := minGallop + 1
    setMG minGallop
  unsupported "internal:list.sort.merge-bound") := rfl
section
variable {prog : Program} {w : World} {A : Around} {E : Value → Shared → Prop} {s : Shared}
theorem wp_mhi {a b : Array Keyed} {st : SortSt} {Q : Array Keyed → SortSt → Prop} (T : Two a b) (hk : Kept st st) (q : ∀ r st', Good (a.toList ++ b.toList) r.toList → Kept st st' → Q r st') : wpS (model prog w) A E s (mhi a b) Q st := by
  rw [mhi_eq]
  have hA := T.na
  have hB := T.nb
  refine wpS_bind (wpS_lift (wpAny_rule ⟨rfl, ?_⟩))
  dsimp only
  have hla : a.size - 1 < a.size := by omega
  refine wpS_bind (wp_elem (drop_at hla).1 ?_)
  have ta : a.toList.take (a.size - 1 + 1) = a.toList := List.take_of_length_le (by rw [Array.length_toList]; omega)
  have tb : b.toList.take b.size = b.toList := List.take_of_length_le (by rw [Array.length_toList]; exact Nat.le_refl _)
  have M0 : MH (a.toList.take (a.size - 1 + 1)) (b.toList.take b.size) (#[] : Array Keyed).toList.reverse (a.toList ++ b.toList) := by
    rw [ta, tb]
    exact ⟨by show (a.toList ++ b.toList ++ []).Perm _; rw [List.append_nil], List.Pairwise.nil, T.ua, T.ub, fun x hx => by cases hx⟩
  have M1 := Hid.pushA hla M0 fun x hx => T.last _ (drop_at hla).1 x (List.mem_of_mem_take hx)
  have e0 : (#[] : Array Keyed).push a[a.size - 1] = #[a[a.size - 1]] := rfl
  rw [e0] at M1
  by_cases ha1 : a.size - 1 = 0
  · rw [if_pos (by simpa using ha1)]
    exact wpS_pure (q _ _ (fin_doneH M1 (.inl ha1)) hk)
  rw [if_neg (by simpa using ha1)]
  by_cases hb1 : b.size = 1
  · rw [if_pos (by simpa using hb1)]
    exact wpS_pure (q _ _ (fin_firstH T M1 hb1) hk)
  rw [if_neg (by simpa using hb1)]
  refine wpS_bind (wpS_get ?_)
  have M2 : Hid a b #[a[a.size - 1]] (a.size - 1) b.size := ⟨M1, by omega, by omega, by omega, by omega⟩
  refine wpS_bind (wpS_mono (wpS_forRange
    (I := fun x c st' => Kept st st' ∧ ∃ na nb out mg, c = (none, na, nb, out, mg) ∧ Hid a b out na nb ∧ x + (na + nb) < a.size + b.size)
    (Q := fun c st' => Kept st st' ∧ ∃ r na nb out mg, c = (some r, na, nb, out, mg) ∧ Good (a.toList ++ b.toList) r.toList) ?step ?fin ⟨hk, _, _, _, _, rfl, M2, by omega⟩) ?post)
  case fin =>
    rintro c st' ⟨_, na, nb, out, mg, rfl, M, hx⟩
    omega
  case post =>
    rintro c st' ⟨hk', r, na, nb, out, mg, rfl, g⟩
    exact wpS_pure (q r st' g hk')
  case step =>
    rintro x c st1 _ hx ⟨hk1, na, nb, out, mg, rfl, M, hlt⟩
    dsimp only
    refine wpS_bind (wpS_mono (wpS_forRange
      (I := fun y c st' => st' = st1 ∧ ∃ na nb out ac bc, c = (none, na, nb, out, ac, bc) ∧ Hid a b out na nb ∧ x + y + (na + nb) < a.size + b.size)
      (Q := fun c st' => st' = st1 ∧ ((∃ r na nb out ac bc, c = (some r, na, nb, out, ac, bc) ∧ Good (a.toList ++ b.toList) r.toList) ∨ ∃ na nb out ac bc, c = (none, na, nb, out, ac, bc) ∧ Hid a b out na nb ∧ x + 1 + (na + nb) < a.size + b.size)) ?step1 ?fin1 ⟨rfl, _, _, _, _, _, rfl, M, by omega⟩) ?post1)
    case fin1 =>
      rintro c st' ⟨_, na, nb, out, ac, bc, rfl, M, hx⟩
      omega
    case step1 =>
      rintro y c st' _ hy ⟨rfl, na, nb, out, ac, bc, rfl, M, hlt⟩
      have ha := M.ha
      have hb := M.hb
      have h1 := M.na
      have h2 := M.nb
      obtain ⟨na, rfl⟩ : ∃ m, na = m + 1 := ⟨na - 1, by omega⟩
      obtain ⟨nb, rfl⟩ : ∃ m, nb = m + 1 := ⟨nb - 1, by omega⟩
      dsimp only
      simp only [Nat.add_sub_cancel]
      have hA' : na < a.size := by omega
      have hB' : nb < b.size := by omega
      refine wpS_bind (wp_elem (drop_at hB').1 (wpS_bind (wp_elem (drop_at hA').1 (wpS_bind (wp_lt hk1.1 (T.ib _ (mem_at hB')) (T.ia _ (mem_at hA')) ?_)))))
      dsimp only
      by_cases hw : kv b[nb] < kv a[na]
      · rw [if_pos (by simpa using hw)]
        refine wpS_bind (wp_elem (drop_at hA').1 ?_)
        have N := Hid.pushA hA' M.mh fun x hx => by have := last_ge hB' T.ub x hx; omega
        by_cases he : na = 0
        · rw [if_pos (by simpa using he)]
          exact wpS_pure ⟨rfl, .inl ⟨_, _, _, _, _, _, rfl, fin_doneH N (.inl he)⟩⟩
        · rw [if_neg (by simpa using he)]
          have N' : Hid a b (out.push a[na]) na (nb + 1) := ⟨N, by omega, hb, by omega, h2⟩
          refine wp_ite (fun _ => ?_) (fun _ => ?_)
          · exact wpS_pure ⟨rfl, .inr ⟨_, _, _, _, _, rfl, N', by omega⟩⟩
          · exact wpS_pure ⟨rfl, _, _, _, _, _, rfl, N', by omega⟩
      · rw [if_neg (by simpa using hw)]
        refine wpS_bind (wp_elem (drop_at hB').1 ?_)
        have N := Hid.pushB hB' M.mh fun x hx => by have := last_ge hA' T.ua x hx; omega
        by_cases he : nb = 1
        · rw [if_pos (by simpa using he)]
          exact wpS_pure ⟨rfl, .inl ⟨_, _, _, _, _, _, rfl, fin_firstH T N he⟩⟩
        · rw [if_neg (by simpa using he)]
          have N' : Hid a b (out.push b[nb]) (na + 1) nb := ⟨N, ha, by omega, h1, by omega⟩
          refine wp_ite (fun _ => ?_) (fun _ => ?_)
          · exact wpS_pure ⟨rfl, .inr ⟨_, _, _, _, _, rfl, N', by omega⟩⟩
          · exact wpS_pure ⟨rfl, _, _, _, _, _, rfl, N', by omega⟩
    case post1 =>
      rintro c st' ⟨rfl, ⟨r, na, nb, out, ac, bc, rfl, g⟩ | ⟨na, nb, out, ac, bc, rfl, M, hlt⟩⟩
      · exact wpS_pure ⟨hk1, r, na, nb, out, mg, rfl, g⟩
      dsimp only
      refine wpS_bind (wpS_lift (wpAny_rule ⟨rfl, ?_⟩))
      refine wpS_bind (wpS_mono (wpS_forRange
        (I := fun y c st' => Kept st st' ∧ ∃ na nb out mg ac bc, c = (none, na, nb, out, mg, ac, bc) ∧ Hid a b out na nb ∧ x + 1 + y + (na + nb) < a.size + b.size)
        (Q := fun c st' => Kept st st' ∧ ((∃ r na nb out mg ac bc, c = (some r, na, nb, out, mg, ac, bc) ∧ Good (a.toList ++ b.toList) r.toList) ∨ ∃ na nb out mg ac bc, c = (none, na, nb, out, mg, ac, bc) ∧ Hid a b out na nb ∧ x + 1 + (na + nb) < a.size + b.size)) ?step2 ?fin2 ⟨hk1, _, _, _, _, _, _, rfl, M, by omega⟩) ?post2)
      case fin2 =>
        rintro c st' ⟨_, na, nb, out, mg, ac, bc, rfl, M, hx⟩
        omega
      case post2 =>
        rintro c st' ⟨hk2, ⟨r, na, nb, out, mg, ac, bc, rfl, g⟩ | ⟨na, nb, out, mg, ac, bc, rfl, M, hlt⟩⟩
        · exact wpS_pure ⟨hk2, r, na, nb, out, mg, rfl, g⟩
        · dsimp only
          refine wpS_bind (wp_setMG hk2 fun st3 hk3 => ?_)
          exact wpS_pure ⟨hk3, _, _, _, _, rfl, M, by omega⟩
      case step2 =>
        rintro y c st2 _ hy ⟨hk2, na, nb, out, mg, ac, bc, rfl, M, hlt⟩
        have ha := M.ha
        have hb := M.hb
        have h1 := M.na
        have h2 := M.nb
        obtain ⟨nb, rfl⟩ : ∃ m, nb = m + 1 := ⟨nb - 1, by omega⟩
        dsimp only
        simp only [Nat.add_sub_cancel]
        have hB' : nb < b.size := by omega
        refine' (fun (hh : ∀ m2 : Nat, (_ : Nat → Prop) m2) => ?one) ?two
        case one =>
          by_cases hm : mg > 1
          · rw [if_pos hm]; generalize mg - 1 = m2; revert m2; exact hh
          · rw [if_neg hm]; generalize mg = m2; revert m2; exact hh
        case two =>
          intro mg
          refine wpS_bind (wp_setMG hk2 fun st3 hk3 => ?_)
          refine wpS_bind (wp_elem (drop_at hB').1 ?_)
          refine wpS_bind (wp_gal (galR T.ia T.ua (T.ib _ (mem_at hB')) ha) hk3.1 (show na - 1 < na by omega) fun i hin hlo hhi => ?_)
          dsimp only
          have fa : ∀ x ∈ (a.extract i na).toList, ∀ y ∈ b.toList.take (nb + 1), kv y ≤ kv x := fun x hx y hy => by
            obtain ⟨j, hj, hj2, hja, rfl⟩ := mem_ext hx
            have e := hhi j hj hj2
            simp only [Nat.zero_add] at e
            rw [dif_pos hja] at e
            have e' : kv b[nb] < kv a[j] := by simpa using e
            have := last_ge hB' T.ub y hy
            omega
          have fb : ∀ x ∈ a.toList.take i, kv x ≤ kv b[nb] := fun x hx => by
            obtain ⟨j, hj, hja, rfl⟩ := mem_take hx
            have e := hlo j hj
            simp only [Nat.zero_add] at e
            rw [dif_pos hja] at e
            have e' : ¬ kv b[nb] < kv a[j] := by simpa using e
            omega
          have N := Hid.leapA hin M.mh fa
          refine' (fun (hh : ∀ (i kk : Nat) (o2 : Array Keyed), (_ : Nat → Nat → Array Keyed → Prop) i kk o2) => ?one2) ?two2
          case one2 =>
            by_cases hk0 : na - i > 0
            · rw [if_pos hk0]
              by_cases he : i = 0
              · rw [if_pos (by simpa using he)]
                exact wpS_pure ⟨hk3, .inl ⟨_, _, _, _, _, _, _, rfl, fin_doneH N (.inl he)⟩⟩
              rw [if_neg (by simpa using he)]
              have P1 := N
              have P2 : 1 ≤ i := by omega
              have P3 := fb
              have P4 : x + 1 + y + (i + (nb + 1)) < a.size + b.size := by omega
              have P5 : i ≤ a.size := by omega
              generalize na - i = kk
              generalize out ++ (a.extract i na).reverse = o2 at P1 ⊢
              generalize i = i' at P1 P2 P3 P4 P5 ⊢
              revert P5; revert P4; revert P3; revert P2; revert P1
              exact hh i' kk o2
            · rw [if_neg hk0]
              obtain rfl : i = na := by omega
              have P1 := M.mh
              have P2 := h1
              have P3 := fb
              have P4 := hlt
              have P5 := ha
              generalize i - i = kk
              revert P5; revert P4; revert P3; revert P2; revert P1
              exact hh i kk out
          case two2 =>
            clear N fb fa hlo hhi hlt M hin h1 ha
            intro i kk o2 P1 P2 P3 P4 P5
            refine wpS_bind (wp_elem (drop_at hB').1 ?_)
            have N2 := Hid.pushB hB' P1 P3
            by_cases he : nb = 1
            · rw [if_pos (by simpa using he)]
              exact wpS_pure ⟨hk3, .inl ⟨_, _, _, _, _, _, _, rfl, fin_firstH T N2 he⟩⟩
            rw [if_neg (by simpa using he)]
            obtain ⟨i2, rfl⟩ : ∃ m, i = m + 1 := ⟨i - 1, by omega⟩
            simp only [Nat.add_sub_cancel]
            have hA' : i2 < a.size := by omega
            refine wpS_bind (wp_elem (drop_at hA').1 ?_)
            refine wpS_bind (wp_gal (galL T.ib T.ub (T.ia _ (mem_at hA')) (show nb ≤ b.size by omega)) hk3.1 (show nb - 1 < nb by omega) fun j2 hjn hlo2 hhi2 => ?_)
            dsimp only
            have ga : ∀ x ∈ (b.extract j2 nb).toList, ∀ y ∈ a.toList.take (i2 + 1), kv y ≤ kv x := fun x hx y hy => by
              obtain ⟨j, hj, hj2, hja, rfl⟩ := mem_ext hx
              have e := hhi2 j hj hj2
              simp only [Nat.zero_add] at e
              rw [dif_pos hja] at e
              have e' : ¬ kv b[j] < kv a[i2] := by simpa using e
              have := last_ge hA' T.ua y hy
              omega
            have gb : ∀ x ∈ b.toList.take j2, kv x ≤ kv a[i2] := fun x hx => by
              obtain ⟨j, hj, hja, rfl⟩ := mem_take hx
              have e := hlo2 j hj
              simp only [Nat.zero_add] at e
              rw [dif_pos hja] at e
              have e' : kv b[j] < kv a[i2] := by simpa using e
              omega
            have N3 := Hid.leapB hjn N2 ga
            refine' (fun (hh : ∀ (j2 kk2 : Nat) (o3 : Array Keyed), (_ : Nat → Nat → Array Keyed → Prop) j2 kk2 o3) => ?one3) ?two3
            case one3 =>
              by_cases hk20 : nb - j2 > 0
              · rw [if_pos hk20]
                by_cases he2 : j2 = 1
                · rw [if_pos (by simpa using he2)]
                  exact wpS_pure ⟨hk3, .inl ⟨_, _, _, _, _, _, _, rfl, fin_firstH T N3 he2⟩⟩
                rw [if_neg (by simpa using he2)]
                by_cases he3 : j2 = 0
                · rw [if_pos (by simpa using he3)]
                  exact wpS_pure ⟨hk3, .inl ⟨_, _, _, _, _, _, _, rfl, fin_doneH N3 (.inr he3)⟩⟩
                rw [if_neg (by simpa using he3)]
                have R1 := N3
                have R2 : 2 ≤ j2 := by omega
                have R3 := gb
                have R4 : x + 1 + y + 1 + (i2 + j2) < a.size + b.size := by omega
                have R5 : j2 ≤ b.size := by omega
                generalize nb - j2 = kk2
                generalize o2.push b[nb] ++ (b.extract j2 nb).reverse = o3 at R1 ⊢
                generalize j2 = j' at R1 R2 R3 R4 R5 ⊢
                revert R5; revert R4; revert R3; revert R2; revert R1
                exact hh j' kk2 o3
              · rw [if_neg hk20]
                obtain rfl : j2 = nb := by omega
                have R1 := N2
                have R2 : 2 ≤ j2 := by omega
                have R3 := gb
                have R4 : x + 1 + y + 1 + (i2 + j2) < a.size + b.size := by omega
                have R5 : j2 ≤ b.size := by omega
                generalize j2 - j2 = kk2
                generalize o2.push b[j2] = o3 at R1 ⊢
                revert R5; revert R4; revert R3; revert R2; revert R1
                exact hh j2 kk2 o3
            case two3 =>
              clear N3 gb ga hlo2 hhi2 N2 hjn
              intro j2 kk2 o3 R1 R2 R3 R4 R5
              refine wpS_bind (wp_elem (drop_at hA').1 ?_)
              have N4 := Hid.pushA hA' R1 R3
              by_cases he3 : i2 = 0
              · rw [if_pos (by simpa using he3)]
                exact wpS_pure ⟨hk3, .inl ⟨_, _, _, _, _, _, _, rfl, fin_doneH N4 (.inl he3)⟩⟩
              rw [if_neg (by simpa using he3)]
              have N5 : Hid a b (o3.push a[i2]) i2 j2 := ⟨N4, by omega, R5, by omega, R2⟩
              refine wp_ite (fun _ => ?_) (fun _ => ?_)
              · exact wpS_pure ⟨hk3, .inr ⟨_, _, _, _, _, _, rfl, N5, by omega⟩⟩
              · exact wpS_pure ⟨hk3, _, _, _, _, _, _, rfl, N5, by omega⟩
end
end Srt

set_option Elab.async false
set_option linter.all false
set_option maxRecDepth 100000
set_option maxHeartbeats 4000000
namespace Srt
open PySem PyProof.Rows
structure Bs (a₀ : Array Keyed) (p : Array (Nat × Nat × Nat)) (st : SortSt) : Prop where
  perm : (arrOf st).Perm a₀
  kind : kindOf st = oneType'
  failed : failedOf st = none
  pend : pendingOf st = p
theorem Bs.base {a₀ : Array Keyed} {p : Array (Nat × Nat × Nat)} {st : SortSt} (h : Bs a₀ p st) : SBase a₀ (setPending st #[]) := ⟨h.perm, h.kind, h.failed, rfl⟩
theorem Bs.size {a₀ : Array Keyed} {p : Array (Nat × Nat × Nat)} {st : SortSt} (h : Bs a₀ p st) : (arrOf st).size = a₀.size := h.perm.size_eq
theorem Bs.arr {a₀ : Array Keyed} {p : Array (Nat × Nat × Nat)} {st : SortSt} (h : Bs a₀ p st) {xs : Array Keyed} (hp : xs.Perm (arrOf st)) : Bs a₀ p (setArr st xs) := ⟨hp.trans h.perm, h.kind, h.failed, h.pend⟩
def Seg (xs : Array Keyed) (lo hi : Nat) : Prop := ∀ i j, lo ≤ i → i ≤ j → j < hi → K xs i ≤ K xs j
def Fal (xs : Array Keyed) (lo hi : Nat) : Prop := ∀ i j, lo ≤ i → i ≤ j → j < hi → K xs j ≤ K xs i
def Low (lo : Nat) (xs ys : Array Keyed) : Prop := ∀ k, k < lo → K ys k = K xs k
section
variable {prog : Program} {w : World} {A : Around} {E : Value → Shared → Prop} {s : Shared} {a₀ : Array Keyed} {p : Array (Nat × Nat × Nat)}
theorem wp_ltK {st : SortSt} {i j : Nat} {Q : Option Bool → SortSt → Prop} (hB : Bs a₀ p st) (h0 : IntKeys a₀) (hi : i < a₀.size) (hj : j < a₀.size)
    (q : Q (some (decide (K (arrOf st) i < K (arrOf st) j))) st) : wpS (model prog w) A E s (ltAt' i j) Q st := by
  obtain ⟨t, x, e1⟩ := hB.base.at h0 hi
  obtain ⟨u, y, e2⟩ := hB.base.at h0 hj
  exact wpS_ltAt hB.kind e1 e2 q
theorem seg_more {xs : Array Keyed} {lo x : Nat} (h : Seg xs lo (lo + x)) (h1 : 1 ≤ x) (hn : ¬ K xs (lo + x) < K xs (lo + x - 1)) : Seg xs lo (lo + (x + 1)) := fun i j a b c => by
  by_cases z : j < lo + x
  · exact h i j a b z
  · obtain rfl : j = lo + x := by omega
    by_cases y : i = lo + x
    · rw [y]; exact Int.le_refl _
    · have := h i (lo + x - 1) a (by omega) (by omega)
      omega
theorem fal_more {xs : Array Keyed} {lo x : Nat} (h : Fal xs lo (lo + x)) (h1 : 1 ≤ x) (hn : K xs (lo + x) ≤ K xs (lo + x - 1)) : Fal xs lo (lo + (x + 1)) := fun i j a b c => by
  by_cases z : j < lo + x
  · exact h i j a b z
  · obtain rfl : j = lo + x := by omega
    by_cases y : i = lo + x
    · rw [y]; exact Int.le_refl _
    · have := h i (lo + x - 1) a (by omega) (by omega)
      omega
theorem fal_turn {xs : Array Keyed} {lo n : Nat} (hs : lo + n ≤ xs.size) (h : Fal xs lo (lo + n)) : Seg (mirror xs lo (lo + n) ((lo + n - lo) / 2)) lo (lo + n) := fun i j a b c => by
  rw [K_mirror hs, K_mirror hs, if_pos (by omega), if_pos (by omega)]
  exact h _ _ (by omega) (by omega) (by omega)
theorem low_turn {xs : Array Keyed} {lo i j : Nat} (hs : j ≤ xs.size) (h : lo ≤ i) : Low lo xs (mirror xs i j ((j - i) / 2)) := fun k hk => by
  rw [K_mirror hs, if_neg (by omega)]
theorem Low.trans {lo : Nat} {xs ys zs : Array Keyed} (h : Low lo xs ys) (g : Low lo ys zs) : Low lo xs zs := fun k hk => (g k hk).trans (h k hk)
theorem wp_count {st : SortSt} {lo nrem : Nat} {Q : Option Nat → SortSt → Prop} (h0 : IntKeys a₀) (hn : lo + nrem ≤ a₀.size) (h1 : 1 ≤ nrem) (hB : Bs a₀ p st)
    (h : ∀ m st', Bs a₀ p st' → Low lo (arrOf st) (arrOf st') → 1 ≤ m → m ≤ nrem → Seg (arrOf st') lo (lo + m) → Q (some m) st') :
    wpS (model prog w) A E s (countRun' lo nrem) Q st := by
  rw [countRun'_eq]
  refine wpS_bind (wpS_mono (wpS_forRange (I := fun x c st' => st' = st ∧ c = (none, x) ∧ Seg (arrOf st) lo (lo + x))
    (Q := fun c st' => st' = st ∧ ∃ m, c = (none, m) ∧ 1 ≤ m ∧ m ≤ nrem ∧ Seg (arrOf st) lo (lo + m) ∧ (m = nrem ∨ K (arrOf st) (lo + m) < K (arrOf st) (lo + m - 1))) ?s1 ?f1 ⟨rfl, rfl, fun i j a b c => ?o1⟩) ?p1)
  case o1 =>
    obtain rfl : i = j := by omega
    exact Int.le_refl _
  case f1 =>
    rintro c st' ⟨rfl, rfl, hs⟩
    rw [show max 1 nrem = nrem by omega] at hs ⊢
    exact ⟨rfl, nrem, rfl, h1, Nat.le_refl _, hs, .inl rfl⟩
  case s1 =>
    rintro x c st' hx1 hx ⟨rfl, rfl, hs⟩
    dsimp only
    refine wpS_bind (wp_ltK hB h0 (by omega) (by omega) ?_)
    dsimp only
    refine wp_ite (fun c => ?_) (fun c => ?_)
    · have c' := of_decide_eq_true c
      exact wpS_pure ⟨rfl, x, rfl, hx1, by omega, hs, .inr c'⟩
    · have c' := fun z => c (decide_eq_true z)
      exact wpS_pure ⟨rfl, rfl, seg_more hs hx1 c'⟩
  case p1 =>
    rintro c st' ⟨hst, m, rfl, hm1, hm2, hs, hor⟩
    subst st'
    have hsz : (arrOf st).size = a₀.size := hB.size
    dsimp only
    by_cases hm : m = nrem
    · rw [if_pos (by simpa using hm)]
      exact wpS_pure (h m st hB (fun _ _ => rfl) hm1 hm2 hs)
    rw [if_neg (by simpa using hm)]
    have hlt : K (arrOf st) (lo + m) < K (arrOf st) (lo + m - 1) := hor.resolve_left hm
    by_cases hgt : m > 1
    case' pos =>
      rw [if_pos hgt]
      refine wpS_bind (wp_ltK hB h0 (by omega) (by omega) ?_)
      dsimp only
      by_cases hrose : K (arrOf st) lo < K (arrOf st) (lo + m - 1)
      · rw [if_pos (by simpa using hrose)]
        exact wpS_pure (h m st hB (fun _ _ => rfl) hm1 hm2 hs)
      rw [if_neg (by simpa using hrose)]
      have hall : ∀ k, lo ≤ k → k < lo + m → K (arrOf st) k = K (arrOf st) (lo + m - 1) := fun k k1 k2 => by
        have a1 := hs lo k (Nat.le_refl _) k1 k2
        have a2 := hs k (lo + m - 1) k1 (by omega) (by omega)
        omega
      refine wpS_bind (wpS_reverse ?_)
      have B2 : Bs a₀ p (setArr st (mirror (arrOf st) lo (lo + m) ((lo + m - lo) / 2))) := hB.arr (mirror_perm _ _ _ _)
      have L2 : Low lo (arrOf st) (arrOf (setArr st (mirror (arrOf st) lo (lo + m) ((lo + m - lo) / 2)))) := low_turn (by omega) (Nat.le_refl _)
      have F2 : Fal (arrOf (setArr st (mirror (arrOf st) lo (lo + m) ((lo + m - lo) / 2)))) lo (lo + (m + 1)) := fun i j a b c => by
        show K (mirror (arrOf st) lo (lo + m) ((lo + m - lo) / 2)) j ≤ K (mirror (arrOf st) lo (lo + m) ((lo + m - lo) / 2)) i
        rw [K_mirror_equal (by omega) hall, K_mirror_equal (by omega) hall]
        by_cases hj : j < lo + m
        · rw [hall i (by omega) (by omega), hall j (by omega) hj]; exact Int.le_refl _
        · obtain rfl : j = lo + m := by omega
          by_cases hi : i = lo + m
          · rw [hi]; exact Int.le_refl _
          · rw [hall i (by omega) (by omega)]; omega
      generalize setArr st (mirror (arrOf st) lo (lo + m) ((lo + m - lo) / 2)) = st2 at B2 L2 F2 ⊢
      clear hall hrose
    case' neg =>
      rw [if_neg hgt]
      obtain rfl : m = 1 := by omega
      have B2 := hB
      have L2 : Low lo (arrOf st) (arrOf st) := fun _ _ => rfl
      have F2 : Fal (arrOf st) lo (lo + (1 + 1)) := fun i j a b c => by
        by_cases hi : i = j
        · rw [hi]; exact Int.le_refl _
        · obtain rfl : i = lo := by omega
          obtain rfl : j = i + 1 := by omega
          rw [show i + 1 - 1 = i by omega] at hlt
          omega
      generalize hst2 : st = st2 at B2 F2 ⊢
      have L2 : Low lo (arrOf st) (arrOf st2) := by rw [← hst2]; exact L2
      clear hst2
    all_goals
      refine wpS_bind (wpS_lift (wpAny_rule ⟨rfl, ?_⟩))
      refine wpS_bind (wpS_mono (wpS_forRange (I := fun x c st' => ∃ neq, c = (none, x, neq) ∧ Bs a₀ p st' ∧ Low lo (arrOf st) (arrOf st') ∧ Fal (arrOf st') lo (lo + x) ∧ neq + 1 ≤ x ∧ ∀ i, lo + x - (neq + 1) ≤ i → i < lo + x → K (arrOf st') i = K (arrOf st') (lo + x - 1))
        (Q := fun c st' => ∃ x neq, c = (none, x, neq) ∧ 1 ≤ x ∧ x ≤ nrem ∧ Bs a₀ p st' ∧ Low lo (arrOf st) (arrOf st') ∧ Fal (arrOf st') lo (lo + x) ∧ neq + 1 ≤ x ∧ ∀ i, lo + x - (neq + 1) ≤ i → i < lo + x → K (arrOf st') i = K (arrOf st') (lo + x - 1)) ?s2 ?f2 ⟨0, rfl, B2, L2, F2, by omega, fun i a b => by congr 1; omega⟩) ?p2)
      case f2 =>
        rintro c st' ⟨neq, rfl, b1, b2, b3, b4, b5⟩
        rw [Nat.max_eq_right (by omega)] at b3 b4 b5 ⊢
        exact ⟨_, neq, rfl, by omega, Nat.le_refl _, b1, b2, b3, b4, b5⟩
      case s2 =>
        rintro x c st' hx1 hx ⟨neq, rfl, b1, b2, b3, b4, b5⟩
        have hsz' : (arrOf st').size = a₀.size := b1.size
        dsimp only
        refine wpS_bind (wp_ltK b1 h0 (by omega) (by omega) ?_)
        dsimp only
        refine wp_ite (fun c => ?_) (fun c => ?_)
        · have c' := of_decide_eq_true c
          refine wp_ite (fun c2 => ?_) (fun c2 => ?_)
          · refine wpS_bind (wpS_reverse (wpS_pure ⟨0, rfl, b1.arr (mirror_perm _ _ _ _), b2.trans (low_turn (by omega) (by omega)), ?_, by omega, fun i a b => by congr 1; omega⟩))
            show Fal (mirror (arrOf st') (lo + x - (neq + 1)) (lo + x) ((lo + x - (lo + x - (neq + 1))) / 2)) lo (lo + (x + 1))
            intro i j a b d
            rw [K_mirror_equal (by omega) b5, K_mirror_equal (by omega) b5]
            exact fal_more b3 (by omega) (by omega) i j a b d
          · exact wpS_pure ⟨0, rfl, b1, b2, fal_more b3 (by omega) (by omega), by omega, fun i a b => by congr 1; omega⟩
        · have c' : ¬ K (arrOf st') (lo + x) < K (arrOf st') (lo + x - 1) := fun z => c (decide_eq_true z)
          refine wpS_bind (wp_ltK b1 h0 (by omega) (by omega) ?_)
          dsimp only
          refine wp_ite (fun c2 => ?_) (fun c2 => ?_)
          · exact wpS_pure ⟨x, neq, rfl, by omega, by omega, b1, b2, b3, b4, b5⟩
          · have c2' : ¬ K (arrOf st') (lo + x - 1) < K (arrOf st') (lo + x) := fun z => c2 (decide_eq_true z)
            have e : K (arrOf st') (lo + x) = K (arrOf st') (lo + x - 1) := by omega
            refine wpS_pure ⟨neq + 1, rfl, b1, b2, fal_more b3 (by omega) (by omega), by omega, fun i a b => ?_⟩
            rw [show lo + (x + 1) - 1 = lo + x by omega]
            by_cases hi : i = lo + x
            · rw [hi]
            · rw [e]; exact b5 i (by omega) (by omega)
      case p2 =>
        rintro c st' ⟨x, neq, rfl, b0, b00, b1, b2, b3, b4, b5⟩
        have hsz' : (arrOf st').size = a₀.size := b1.size
        dsimp only
        by_cases hq : neq > 0
        case' pos =>
          rw [if_pos hq]
          refine wpS_bind (wpS_reverse ?_)
          have D1 : Bs a₀ p (setArr st' (mirror (arrOf st') (lo + x - (neq + 1)) (lo + x) ((lo + x - (lo + x - (neq + 1))) / 2))) := b1.arr (mirror_perm _ _ _ _)
          have D2 : Low lo (arrOf st) (arrOf (setArr st' (mirror (arrOf st') (lo + x - (neq + 1)) (lo + x) ((lo + x - (lo + x - (neq + 1))) / 2)))) := b2.trans (low_turn (by omega) (by omega))
          have D3 : Fal (arrOf (setArr st' (mirror (arrOf st') (lo + x - (neq + 1)) (lo + x) ((lo + x - (lo + x - (neq + 1))) / 2)))) lo (lo + x) := fun i j a b d => by
            show K (mirror (arrOf st') (lo + x - (neq + 1)) (lo + x) ((lo + x - (lo + x - (neq + 1))) / 2)) j ≤ K (mirror (arrOf st') (lo + x - (neq + 1)) (lo + x) ((lo + x - (lo + x - (neq + 1))) / 2)) i
            rw [K_mirror_equal (by omega) b5, K_mirror_equal (by omega) b5]
            exact b3 i j a b d
          generalize setArr st' (mirror (arrOf st') (lo + x - (neq + 1)) (lo + x) ((lo + x - (lo + x - (neq + 1))) / 2)) = st3 at D1 D2 D3 ⊢
        case' neg =>
          rw [if_neg hq]
          have D1 := b1
          have D2 := b2
          have D3 := b3
          generalize st' = st3 at D1 D2 D3 ⊢
        all_goals
          have hs3 : (arrOf st3).size = a₀.size := D1.size
          refine wpS_bind (wpS_reverse ?_)
          have G1 : Bs a₀ p (setArr st3 (mirror (arrOf st3) lo (lo + x) ((lo + x - lo) / 2))) := D1.arr (mirror_perm _ _ _ _)
          have G2 : Low lo (arrOf st) (arrOf (setArr st3 (mirror (arrOf st3) lo (lo + x) ((lo + x - lo) / 2)))) := D2.trans (low_turn (by omega) (Nat.le_refl _))
          have G3 : Seg (arrOf (setArr st3 (mirror (arrOf st3) lo (lo + x) ((lo + x - lo) / 2)))) lo (lo + x) := fal_turn (by omega) D3
          generalize setArr st3 (mirror (arrOf st3) lo (lo + x) ((lo + x - lo) / 2)) = st4 at G1 G2 G3 ⊢
          refine wpS_bind (wpS_mono (wpS_forRange (I := fun x c st' => st' = st4 ∧ c = (none, x) ∧ Seg (arrOf st4) lo (lo + x))
            (Q := fun c st' => st' = st4 ∧ ∃ m, c = (none, m) ∧ 1 ≤ m ∧ m ≤ nrem ∧ Seg (arrOf st4) lo (lo + m)) ?s3 ?f3 ⟨rfl, rfl, G3⟩) ?p3)
          case f3 =>
            rintro c st5 ⟨rfl, rfl, hs⟩
            rw [Nat.max_eq_right b00] at hs ⊢
            exact ⟨rfl, nrem, rfl, h1, Nat.le_refl _, hs⟩
          case s3 =>
            rintro y c st5 hy1 hy ⟨rfl, rfl, hs⟩
            dsimp only
            refine wpS_bind (wp_ltK G1 h0 (by omega) (by omega) ?_)
            dsimp only
            refine wp_ite (fun c => ?_) (fun c => ?_)
            · exact wpS_pure ⟨rfl, y, rfl, by omega, by omega, hs⟩
            · have c' := fun z => c (decide_eq_true z)
              exact wpS_pure ⟨rfl, rfl, seg_more hs (by omega) c'⟩
          case p3 =>
            rintro c st5 ⟨rfl, m3, rfl, d1, d2, d3⟩
            exact wpS_pure (h m3 _ G1 G2 d1 d2 d3)
theorem wp_bins {st : SortSt} {lo n ok : Nat} {Q : Bool → SortSt → Prop} (h0 : IntKeys a₀) (hn : lo + n ≤ a₀.size) (hok : ok ≤ n) (hB : Bs a₀ p st) (hs : Seg (arrOf st) lo (lo + ok))
    (h : ∀ st', Bs a₀ p st' → Low lo (arrOf st) (arrOf st') → Seg (arrOf st') lo (lo + n) → Q true st') : wpS (model prog w) A E s (binarySort' lo n ok) Q st := by
  rw [binarySort'_eq]
  refine wpS_bind (wpS_mono (wpS_forRange (I := fun k c st' => c = (none, ()) ∧ Bs a₀ p st' ∧ Low lo (arrOf st) (arrOf st') ∧ Seg (arrOf st') lo (lo + min k n))
    (Q := fun c st' => c = (none, ()) ∧ Bs a₀ p st' ∧ Low lo (arrOf st) (arrOf st') ∧ Seg (arrOf st') lo (lo + n)) ?s1 ?f1 ⟨rfl, hB, fun _ _ => rfl, fun i j a b c => ?o1⟩) ?p1)
  case o1 =>
    by_cases z : ok = 0
    · obtain rfl : i = j := by omega
      exact Int.le_refl _
    · exact hs i j a b (by omega)
  case p1 =>
    rintro c st' ⟨rfl, b1, b2, b3⟩
    exact wpS_pure (h st' b1 b2 b3)
  case f1 =>
    rintro c st' ⟨hc, b1, b2, b3⟩
    rw [show min (max (max ok 1) n) n = n by omega] at b3
    exact ⟨hc, b1, b2, b3⟩
  case s1 =>
    rintro k c st' hk1 hkn ⟨rfl, b1, b2, b3⟩
    rw [show min k n = k by omega] at b3
    have hz : (arrOf st').size = a₀.size := b1.size
    refine wpS_bind (wpS_mono (wpS_forRange (I := fun x c st'' => st'' = st' ∧ ∃ l r, c = (none, l, r) ∧ l ≤ r ∧ r ≤ k ∧ r - l ≤ k - x ∧ (∀ i, i < l → K (arrOf st') (lo + i) ≤ K (arrOf st') (lo + k)) ∧ (∀ i, r ≤ i → i < k → K (arrOf st') (lo + k) < K (arrOf st') (lo + i)))
      (Q := fun c st'' => st'' = st' ∧ ∃ l r, c = (none, l, r) ∧ l ≤ k ∧ (∀ i, i < l → K (arrOf st') (lo + i) ≤ K (arrOf st') (lo + k)) ∧ (∀ i, l ≤ i → i < k → K (arrOf st') (lo + k) < K (arrOf st') (lo + i))) ?s2 ?f2 ⟨rfl, 0, k, rfl, by omega, by omega, by omega, fun i hi => by omega, fun i a b => by omega⟩) ?p2)
    case f2 =>
      rintro c st'' ⟨rfl, l, r, rfl, d1, d2, d3, d4, d5⟩
      obtain rfl : l = r := by omega
      exact ⟨rfl, l, l, rfl, d2, d4, d5⟩
    case s2 =>
      rintro x c st'' _ hx ⟨rfl, l, r, rfl, d1, d2, d3, d4, d5⟩
      dsimp only
      refine wp_ite (fun c => ?_) (fun c => ?_)
      · obtain rfl : l = r := by omega
        exact wpS_pure ⟨rfl, l, l, rfl, d2, d4, d5⟩
      · refine wpS_bind (wp_ltK b1 h0 (by omega) (by omega) ?_)
        dsimp only
        refine wp_ite (fun c2 => ?_) (fun c2 => ?_)
        · have c2' := of_decide_eq_true c2
          refine wpS_pure ⟨rfl, l, (l + r) / 2, rfl, by omega, by omega, by omega, d4, fun i a b => ?_⟩
          exact Int.lt_of_lt_of_le c2' (b3 _ _ (by omega) (by omega) (by omega))
        · have c2' : ¬ K (arrOf st'') (lo + k) < K (arrOf st'') (lo + (l + r) / 2) := fun z => c2 (decide_eq_true z)
          refine wpS_pure ⟨rfl, (l + r) / 2 + 1, r, rfl, by omega, by omega, by omega, fun i a => ?_, d5⟩
          have := b3 (lo + i) (lo + (l + r) / 2) (by omega) (by omega) (by omega)
          omega
    case p2 =>
      rintro c st'' ⟨rfl, l, r, rfl, d2, d4, d5⟩
      show wpS _ _ _ _ (do moveDown' (lo + k) (lo + l); pure (ForInStep.yield (none, ()))) _ _
      rw [moveDown'_eq]
      refine wpS_bind (wpS_modify (wpS_pure ⟨rfl, b1.arr (bubble_perm _ _ _), b2.trans fun i hi => ?_, ?_⟩))
      · show K (bubble (arrOf st'') (lo + k) (lo + k - (lo + l))) i = _
        rw [K_bubble (by omega) (by omega), if_neg (by omega), if_neg (by omega)]
      · rw [show min (k + 1) n = k + 1 by omega]
        intro i j a b e
        show K (bubble (arrOf st'') (lo + k) (lo + k - (lo + l))) i ≤ K (bubble (arrOf st'') (lo + k) (lo + k - (lo + l))) j
        rw [K_bubble (by omega) (by omega), K_bubble (by omega) (by omega), show lo + k - (lo + k - (lo + l)) = lo + l by omega]
        have low : ∀ u, lo ≤ u → u < lo + l → K (arrOf st'') u ≤ K (arrOf st'') (lo + k) := fun u u1 u2 => by
          have := d4 (u - lo) (by omega)
          rw [show lo + (u - lo) = u by omega] at this
          exact this
        have hig : ∀ u, lo + l ≤ u → u < lo + k → K (arrOf st'') (lo + k) ≤ K (arrOf st'') u := fun u u1 u2 => by
          have := d5 (u - lo) (by omega) (by omega)
          rw [show lo + (u - lo) = u by omega] at this
          omega
        repeat' split
        all_goals first
          | (exfalso; omega)
          | exact Int.le_refl _
          | exact low _ (by omega) (by omega)
          | exact hig _ (by omega) (by omega)
          | exact b3 _ _ (by omega) (by omega) (by omega)
end
end Srt

set_option Elab.async false
set_option linter.all false
set_option maxRecDepth 100000
set_option maxHeartbeats 4000000
namespace Srt
open PySem PyProof.Rows
theorem K_at {xs : Array Keyed} {i : Nat} (h : i < xs.size) : K xs i = kv xs[i] := by
  unfold K
  rw [getElem?_pos xs i h]
theorem put_list (sa : Nat) : ∀ (l : List Keyed) (n : Nat) (xs : Array Keyed), sa + n + l.length ≤ xs.size →
    ((l.zipIdx n).foldl (fun (a : Array Keyed) (q : Keyed × Nat) => a.setIfInBounds (sa + q.2) q.1) xs).toList = xs.toList.take (sa + n) ++ l ++ xs.toList.drop (sa + n + l.length)
  | [], n, xs, h => by
    show xs.toList = _
    rw [List.append_nil, List.length_nil, Nat.add_zero, List.take_append_drop]
  | x :: l, n, xs, h => by
    rw [List.length_cons] at h
    rw [List.zipIdx_cons, List.foldl_cons, put_list sa l (n + 1) _ (by rw [Array.size_setIfInBounds]; omega)]
    have hn : sa + n < xs.toList.length := by rw [Array.length_toList]; omega
    have e : (xs.setIfInBounds (sa + n) x).toList = xs.toList.set (sa + n) x := Array.toList_setIfInBounds ..
    rw [e, List.length_cons]
    have t : (xs.toList.set (sa + n) x).take (sa + (n + 1)) = xs.toList.take (sa + n) ++ [x] := by
      rw [show sa + (n + 1) = sa + n + 1 by omega, List.take_succ_eq_append_getElem (by rw [List.length_set]; exact hn), List.getElem_set_self, List.take_set_of_le (Nat.le_refl _)]
    have d : (xs.toList.set (sa + n) x).drop (sa + (n + 1) + l.length) = xs.toList.drop (sa + n + (l.length + 1)) := by
      rw [List.drop_set_of_lt (by omega)]
      congr 1
      omega
    rw [t, d, List.append_assoc _ [x] l]
    rfl
theorem mAt_eq (i : Nat) : mergeAt' i = (do
  let s ← get
  let (some (sa, na, power), some (sb, nb, _)) := ((pendingOf s)[i]?, (pendingOf s)[i + 1]?) | unsupported "internal:list.sort.pending"
  set (setPending s (((pendingOf s).setIfInBounds i (sa, na + nb, power)).eraseIdxIfInBounds (i + 1)))
  let some k ← gal false (← elem' (arrOf s) sb) (arrOf s) sa na 0 | return false
  let (sa, na) := (sa + k, na - k)
  if na == 0 then return true
  let some nb ← gal true (← elem' (arrOf s) (sa + na - 1)) (arrOf s) sb nb (nb - 1) | return false
  if nb == 0 then return true
  let x := (arrOf s).extract sa sb
  let y := (arrOf s).extract sb (sb + nb)
  let merged ← if na ≤ nb then mlo x y else mhi x y
  modify fun s => setArr s (merged.toList.zipIdx.foldl (fun a (p, j) => a.setIfInBounds (sa + j) p) (arrOf s))
  return (failedOf (← get)).isNone) := rfl
section
variable {prog : Program} {w : World} {A : Around} {E : Value → Shared → Prop} {s : Shared} {a₀ : Array Keyed}
theorem wp_set {σ : Type} {st st' : σ} {Q : PUnit → σ → Prop} (h : Q ⟨⟩ st') : wpS (model prog w) A E s (set st' : StateT σ Sem PUnit) Q st := by
  unfold wpS
  rw [StateT.run_set]
  exact wpAny_pure ⟨rfl, h⟩
theorem ints_of {xs : Array Keyed} (h0 : IntKeys a₀) (hp : xs.Perm a₀) : ∀ x ∈ xs.toList, IntK x := fun x hx => h0 x ((Array.perm_iff_toList_perm.mp hp).mem_iff.mp hx)
theorem segR {xs : Array Keyed} {key : Keyed} {b n : Nat} (hi : ∀ x ∈ xs.toList, IntK x) (u : Seg xs b (b + n)) (hk : IntK key) (h : b + n ≤ xs.size) : Gal false key xs b n (fun i => if h : b + i < xs.size then !decide (kv key < kv xs[b + i]) else false) := by
  refine ⟨hk, fun i hi' => ⟨xs[b + i], getElem?_pos xs (b + i) (by omega), hi _ (mem_at (by omega)), ?_⟩, fun i j hij hj e => ?_⟩
  · show (if h : b + i < xs.size then !decide (kv key < kv xs[b + i]) else false) = _
    rw [dif_pos (by omega)]
    rfl
  · rw [dif_pos (show b + j < xs.size by omega)] at e
    show (if h : b + i < xs.size then !decide (kv key < kv xs[b + i]) else false) = true
    rw [dif_pos (show b + i < xs.size by omega)]
    have m := u (b + i) (b + j) (by omega) (by omega) (by omega)
    rw [K_at (show b + i < xs.size by omega), K_at (show b + j < xs.size by omega)] at m
    have e' : ¬ kv key < kv xs[b + j] := by simpa using e
    have : ¬ kv key < kv xs[b + i] := by omega
    simpa using this
theorem segL {xs : Array Keyed} {key : Keyed} {b n : Nat} (hi : ∀ x ∈ xs.toList, IntK x) (u : Seg xs b (b + n)) (hk : IntK key) (h : b + n ≤ xs.size) : Gal true key xs b n (fun i => if h : b + i < xs.size then decide (kv xs[b + i] < kv key) else false) := by
  refine ⟨hk, fun i hi' => ⟨xs[b + i], getElem?_pos xs (b + i) (by omega), hi _ (mem_at (by omega)), ?_⟩, fun i j hij hj e => ?_⟩
  · show (if h : b + i < xs.size then decide (kv xs[b + i] < kv key) else false) = _
    rw [dif_pos (by omega)]
    rfl
  · rw [dif_pos (show b + j < xs.size by omega)] at e
    show (if h : b + i < xs.size then decide (kv xs[b + i] < kv key) else false) = true
    rw [dif_pos (show b + i < xs.size by omega)]
    have m := u (b + i) (b + j) (by omega) (by omega) (by omega)
    rw [K_at (show b + i < xs.size by omega), K_at (show b + j < xs.size by omega)] at m
    have e' : kv xs[b + j] < kv key := by simpa using e
    have : kv xs[b + i] < kv key := by omega
    simpa using this
theorem up_ext {xs : Array Keyed} {i n : Nat} (hn : n ≤ xs.size) (h : Seg xs i n) : Up (xs.extract i n).toList := by
  refine List.pairwise_iff_getElem.mpr fun u v hu hv huv => ?_
  have hl : (xs.extract i n).toList.length = n - i := by rw [ext_list, List.length_take, List.length_drop, Array.length_toList]; omega
  rw [hl] at hu hv
  have g : ∀ z (hz : z < (xs.extract i n).toList.length), (xs.extract i n).toList[z] = xs[i + z]'(by rw [hl] at hz; omega) := fun z hz => by
    simp only [ext_list, List.getElem_take, List.getElem_drop]
    rfl
  rw [g, g]
  have m := h (i + u) (i + v) (by omega) (by omega) (by omega)
  rw [K_at (by omega), K_at (by omega)] at m
  exact m
theorem up_sorted {xs : Array Keyed} (h : Up xs.toList) : SortedTo xs xs.size := fun i j hij hj => by
  rw [K_at (by omega), K_at hj]
  exact up_at h hij hj
theorem wp_mAt {st : SortSt} {n1 n2 pw : Nat} {Q : Bool → SortSt → Prop} (h0 : IntKeys a₀) (hB : Bs a₀ #[(0, n1, pw), (n1, n2, 0)] st) (hn : n1 + n2 = a₀.size) (p1 : 1 ≤ n1) (p2 : 1 ≤ n2)
    (S1 : Seg (arrOf st) 0 n1) (S2 : Seg (arrOf st) n1 (n1 + n2)) (q : ∀ st', (arrOf st').Perm a₀ → failedOf st' = none → pendingOf st' = #[(0, n1 + n2, pw)] → SortedTo (arrOf st') a₀.size → Q true st') :
    wpS (model prog w) A E s (mergeAt' 0) Q st := by
  rw [mAt_eq]
  have hz : (arrOf st).size = n1 + n2 := by rw [hB.size, hn]
  have hI := ints_of h0 hB.perm
  refine wpS_bind (wpS_get ?_)
  rw [hB.pend]
  dsimp only
  have e0 : (#[(0, n1, pw), (n1, n2, 0)] : Array (Nat × Nat × Nat))[0]? = some (0, n1, pw) := rfl
  have e1 : (#[(0, n1, pw), (n1, n2, 0)] : Array (Nat × Nat × Nat))[0 + 1]? = some (n1, n2, 0) := rfl
  rw [e0, e1]
  dsimp only
  refine wpS_bind (wp_set ?_)
  have e2 : ((#[(0, n1, pw), (n1, n2, 0)] : Array (Nat × Nat × Nat)).setIfInBounds 0 (0, n1 + n2, pw)).eraseIdxIfInBounds (0 + 1) = #[(0, n1 + n2, pw)] := by
    apply Array.toList_inj.mp
    simp
  rw [e2]
  obtain ⟨xs, hxs⟩ : ∃ xs, xs = arrOf st := ⟨_, rfl⟩
  have hpx : xs.Perm a₀ := by rw [hxs]; exact hB.perm
  have K1 : Kept (setPending st #[(0, n1 + n2, pw)]) (setPending st #[(0, n1 + n2, pw)]) := ⟨hB.kind, rfl, rfl, hB.failed⟩
  have K1a : arrOf (setPending st #[(0, n1 + n2, pw)]) = xs := by rw [hxs]
  have K1p : pendingOf (setPending st #[(0, n1 + n2, pw)]) = #[(0, n1 + n2, pw)] := rfl
  rw [← hxs] at S1 S2 hz hI ⊢
  generalize setPending st #[(0, n1 + n2, pw)] = st1 at K1 K1a K1p ⊢
  have b0 : n1 < xs.size := by omega
  have c0 : n1 - 1 < xs.size := by omega
  have sa : ∀ i j (hi : i ≤ j) (hj : j < n1), kv (xs[i]'(by omega)) ≤ kv (xs[j]'(by omega)) := fun i j hi hj => by
    have m := S1 i j (Nat.zero_le _) hi hj
    rw [K_at (by omega), K_at (by omega)] at m
    exact m
  have sb : ∀ i j (h1 : n1 ≤ i) (hi : i ≤ j) (hj : j < xs.size), kv (xs[i]'(by omega)) ≤ kv xs[j] := fun i j h1 hi hj => by
    have m := S2 i j h1 hi (by omega)
    rw [K_at (by omega), K_at (by omega)] at m
    exact m
  -- a state whose list is rising
  have fin : ∀ st' : SortSt, failedOf st' = none → pendingOf st' = pendingOf st1 → (arrOf st').Perm a₀ → Up (arrOf st').toList → Q true st' := fun st' k1 k1' k2 k3 => by
    have := up_sorted k3
    rw [k2.size_eq] at this
    exact q st' k2 k1 (by rw [k1', K1p]) this
  have whole : (∀ i (hi : i < n1), kv (xs[i]'(by omega)) ≤ kv xs[n1]) → Up xs.toList := fun h => by
    refine List.pairwise_iff_getElem.mpr fun i j hi hj hij => ?_
    rw [Array.length_toList] at hi hj
    show kv xs[i] ≤ kv xs[j]
    by_cases z1 : j < n1
    · exact sa i j (by omega) z1
    · by_cases z2 : i < n1
      · exact Int.le_trans (h i z2) (sb n1 j (Nat.le_refl _) (by omega) hj)
      · exact sb i j (by omega) (by omega) hj
  refine wpS_bind (wp_elem (drop_at b0).1 ?_)
  refine wpS_bind (wp_gal (segR (b := 0) (n := n1) hI (by rw [Nat.zero_add]; exact S1) (hI _ (mem_at b0)) (by omega)) K1.1 (show 0 < n1 by omega) fun k hk hlo hhi => ?_)
  dsimp only
  have A1 : ∀ j (hj : j < k), kv (xs[j]'(by omega)) ≤ kv xs[n1] := fun j hj => by
    have e := hlo j hj
    simp only [Nat.zero_add] at e
    rw [dif_pos (show j < xs.size by omega)] at e
    have e' : ¬ kv xs[n1] < kv (xs[j]'(by omega)) := by simpa using e
    omega
  have A2 : ∀ j (h1 : k ≤ j) (hj : j < n1), kv xs[n1] < kv (xs[j]'(by omega)) := fun j h1 hj => by
    have e := hhi j h1 hj
    simp only [Nat.zero_add] at e
    rw [dif_pos (show j < xs.size by omega)] at e
    simpa using e
  by_cases hk1 : n1 - k = 0
  · rw [if_pos (by simpa using hk1)]
    exact wpS_pure (fin st1 K1.2.2.2 rfl (by rw [K1a]; exact hpx) (by rw [K1a]; exact whole fun i hi => A1 i (by omega)))
  rw [if_neg (by simpa using hk1)]
  have ec : 0 + k + (n1 - k) - 1 = n1 - 1 := by omega
  rw [ec]
  refine wpS_bind (wp_elem (drop_at c0).1 ?_)
  refine wpS_bind (wp_gal (segL (b := n1) (n := n2) hI S2 (hI _ (mem_at c0)) (by omega)) K1.1 (show n2 - 1 < n2 by omega) fun m hm hlo2 hhi2 => ?_)
  dsimp only
  have B1 : ∀ j (h1 : n1 ≤ j) (hj : j < n1 + m), kv (xs[j]'(by omega)) < kv xs[n1 - 1] := fun j h1 hj => by
    obtain ⟨d, rfl⟩ : ∃ d, j = n1 + d := ⟨j - n1, by omega⟩
    have e := hlo2 d (by omega)
    rw [dif_pos (show n1 + d < xs.size by omega)] at e
    simpa using e
  have B2 : ∀ j (h1 : n1 + m ≤ j) (hj : j < xs.size), kv xs[n1 - 1] ≤ kv xs[j] := fun j h1 hj => by
    obtain ⟨d, rfl⟩ : ∃ d, j = n1 + d := ⟨j - n1, by omega⟩
    have e := hhi2 d (by omega) (by omega)
    rw [dif_pos hj] at e
    have e' : ¬ kv xs[n1 + d] < kv xs[n1 - 1] := by simpa using e
    omega
  by_cases hm0 : m = 0
  · rw [if_pos (by simpa using hm0)]
    have wh := whole fun i hi => Int.le_trans (sa i (n1 - 1) (by omega) (by omega)) (B2 n1 (by omega) b0)
    exact wpS_pure (fin st1 K1.2.2.2 rfl (by rw [K1a]; exact hpx) (by rw [K1a]; exact wh))
  rw [if_neg (by simpa using hm0)]
  rw [Nat.zero_add]
  obtain ⟨X, hX⟩ : ∃ X, X = xs.extract k n1 := ⟨_, rfl⟩
  obtain ⟨Y, hY⟩ : ∃ Y, Y = xs.extract n1 (n1 + m) := ⟨_, rfl⟩
  rw [← hX, ← hY]
  have sX : X.size = n1 - k := by rw [hX, Array.size_extract]; omega
  have sY : Y.size = m := by rw [hY, Array.size_extract]; omega
  have mX : ∀ x ∈ X.toList, ∃ j, k ≤ j ∧ j < n1 ∧ ∃ hj : j < xs.size, x = xs[j] := fun x hx => by rw [hX] at hx; exact mem_ext hx
  have mY : ∀ x ∈ Y.toList, ∃ j, n1 ≤ j ∧ j < n1 + m ∧ ∃ hj : j < xs.size, x = xs[j] := fun x hx => by rw [hY] at hx; exact mem_ext hx
  have T : Two X Y := by
    refine ⟨fun x hx => ?_, fun x hx => ?_, ?_, ?_, by omega, by omega, fun y hy x hx => ?_, fun x hx y hy => ?_⟩
    · obtain ⟨j, _, _, hj, rfl⟩ := mX x hx
      exact hI _ (mem_at hj)
    · obtain ⟨j, _, _, hj, rfl⟩ := mY x hx
      exact hI _ (mem_at hj)
    · rw [hX]
      exact up_ext (by omega) fun i j a b c => S1 i j (Nat.zero_le _) b c
    · rw [hY]
      exact up_ext (by omega) fun i j a b c => S2 i j a b (by omega)
    · have e : y = xs[n1] := by
        rw [hY, Array.getElem?_extract] at hy
        rw [if_pos (by omega), Nat.add_zero, getElem?_pos xs n1 b0] at hy
        exact (Option.some.inj hy).symm
      obtain ⟨j, j1, j2, hj, rfl⟩ := mX x hx
      rw [e]
      exact Int.le_of_lt (A2 j j1 j2)
    · have e : x = xs[n1 - 1] := by
        rw [sX, hX, Array.getElem?_extract] at hx
        rw [if_pos (by omega), show k + (n1 - k - 1) = n1 - 1 by omega, getElem?_pos xs (n1 - 1) c0] at hx
        exact (Option.some.inj hx).symm
      obtain ⟨j, j1, j2, hj, rfl⟩ := mY y hy
      rw [e]
      exact Int.le_of_lt (B1 j j1 j2)
  have tail : ∀ (r : Array Keyed) (st' : SortSt), Good (X.toList ++ Y.toList) r.toList → Kept st1 st' →
      Q (failedOf (setArr st' (r.toList.zipIdx.foldl (fun a (p, j) => a.setIfInBounds (k + j) p) (arrOf st')))).isNone (setArr st' (r.toList.zipIdx.foldl (fun a (p, j) => a.setIfInBounds (k + j) p) (arrOf st'))) := fun r st' g k1 => by
    have hr : r.toList.length = n1 - k + m := by
      rw [g.1.length_eq, List.length_append, Array.length_toList, Array.length_toList, sX, sY]
    have el : (r.toList.zipIdx.foldl (fun a (p, j) => a.setIfInBounds (k + j) p) (arrOf st')).toList = xs.toList.take k ++ r.toList ++ xs.toList.drop (n1 + m) := by
      rw [k1.2.1, K1a]
      have := put_list k r.toList 0 xs (by omega)
      rw [show k + 0 + r.toList.length = n1 + m by omega, Nat.add_zero] at this
      exact this
    obtain ⟨R, hR⟩ : ∃ R, R = r.toList.zipIdx.foldl (fun a (p, j) => a.setIfInBounds (k + j) p) (arrOf st') := ⟨_, rfl⟩
    rw [← hR] at el ⊢
    have ex : xs.toList = xs.toList.take k ++ (X.toList ++ Y.toList) ++ xs.toList.drop (n1 + m) := by
      have t1 := take_part xs (show k ≤ n1 by omega)
      have t2 := take_part xs (show n1 ≤ n1 + m by omega)
      rw [← hX] at t1
      rw [← hY, t1, List.append_assoc] at t2
      rw [← t2, List.take_append_drop]
    have pm : R.toList.Perm xs.toList := by
      rw [el]
      conv => rhs; rw [ex]
      exact List.Perm.append_right _ (List.Perm.append_left _ g.1)
    have pR : R.Perm a₀ := (Array.perm_iff_toList_perm.mpr pm).trans hpx
    have inr : ∀ u ∈ r.toList, (∃ j, k ≤ j ∧ j < n1 ∧ ∃ hj : j < xs.size, u = xs[j]) ∨ ∃ j, n1 ≤ j ∧ j < n1 + m ∧ ∃ hj : j < xs.size, u = xs[j] := fun u hu => by
      rcases List.mem_append.mp (g.1.mem_iff.mp hu) with z | z
      · exact .inl (mX u z)
      · exact .inr (mY u z)
    have up : Up R.toList := by
      rw [el]
      refine List.pairwise_append.mpr ⟨List.pairwise_append.mpr ⟨?_, g.2, fun u hu v hv => ?_⟩, ?_, fun u hu v hv => ?_⟩
      · refine List.pairwise_iff_getElem.mpr fun i j hi hj hij => ?_
        rw [List.length_take, Array.length_toList] at hi hj
        rw [List.getElem_take, List.getElem_take]
        exact sa i j (by omega) (by omega)
      · obtain ⟨i, hi, hi2, rfl⟩ := mem_take hu
        rcases inr v hv with ⟨j, j1, j2, hj, rfl⟩ | ⟨j, j1, j2, hj, rfl⟩
        · exact sa i j (by omega) j2
        · exact Int.le_trans (A1 i hi) (sb n1 j (Nat.le_refl _) j1 hj)
      · refine List.pairwise_iff_getElem.mpr fun i j hi hj hij => ?_
        rw [List.length_drop, Array.length_toList] at hi hj
        rw [List.getElem_drop, List.getElem_drop]
        exact sb (n1 + m + i) (n1 + m + j) (by omega) (by omega) (by omega)
      · obtain ⟨j, hj, hj2, rfl⟩ := mem_rest hv
        rcases List.mem_append.mp hu with z | z
        · obtain ⟨i, hi, hi2, rfl⟩ := mem_take z
          exact Int.le_trans (A1 i hi) (sb n1 j (Nat.le_refl _) (by omega) hj2)
        · rcases inr u z with ⟨i, i1, i2, hi, rfl⟩ | ⟨i, i1, i2, hi, rfl⟩
          · exact Int.le_trans (sa i (n1 - 1) (by omega) (by omega)) (B2 j hj hj2)
          · exact sb i j i1 (by omega) hj2
    have hf : (failedOf (setArr st' R)).isNone = true := by
      show (failedOf st').isNone = true
      rw [k1.2.2.2]
      rfl
    rw [hf]
    exact fin (setArr st' R) k1.2.2.2 k1.2.2.1 pR up
  refine wp_ite (fun _ => ?_) (fun _ => ?_)
  · refine wpS_bind (wp_mlo T K1 fun r st' g k1 => ?_)
    exact wpS_bind (wpS_modify (wpS_bind (wpS_get (wpS_pure (tail r st' g k1)))))
  · refine wpS_bind (wp_mhi T K1 fun r st' g k1 => ?_)
    exact wpS_bind (wpS_modify (wpS_bind (wpS_get (wpS_pure (tail r st' g k1)))))
end
end Srt

set_option Elab.async false
set_option linter.all false
set_option maxRecDepth 100000
set_option maxHeartbeats 4000000
namespace Srt
open PySem PyProof.Rows
theorem minrun_of {n : Nat} (h1 : 64 ≤ n) (h2 : n < 128) : ∃ mr, minRun' n n 0 = mr ∧ mr ≤ n ∧ n ≤ 2 * mr := by
  obtain ⟨f, hf⟩ : ∃ f, n = f + 1 + 1 := ⟨n - 2, by omega⟩
  refine ⟨_, rfl, ?_⟩
  have e : minRun' n n 0 = n / 2 + max 0 (n % 2) := by
    conv => lhs; rw [hf]
    rw [← hf]
    conv => lhs; rw [hf]
    rw [minRun'_succ, if_neg (by omega), minRun'_succ, if_pos (by omega), ← hf]
  rw [e]
  omega
section
variable {prog : Program} {w : World} {A : Around} {E : Value → Shared → Prop} {s : Shared} {a₀ : Array Keyed}
def TwoR (a₀ : Array Keyed) (st : SortSt) : Prop := ∃ n1 n2 pw, n1 + n2 = a₀.size ∧ 1 ≤ n1 ∧ 1 ≤ n2 ∧ Bs a₀ #[(0, n1, pw), (n1, n2, 0)] st ∧ Seg (arrOf st) 0 n1 ∧ Seg (arrOf st) n1 (n1 + n2)
def FinR (a₀ : Array Keyed) (st : SortSt) : Prop := (arrOf st).Perm a₀ ∧ failedOf st = none ∧ (pendingOf st).size ≤ 1 ∧ SortedTo (arrOf st) a₀.size
theorem wp_runs {st : SortSt} {Q : Unit → SortSt → Prop} (h0 : IntKeys a₀) (hB : SBase a₀ st) (h64 : 64 ≤ a₀.size) (h128 : a₀.size < 128)
    (h : ∀ st', (arrOf st').Perm a₀ → failedOf st' = none → SortedTo (arrOf st') a₀.size → Q () st') : wpS (model prog w) A E s sortRuns' Q st := by
  rw [sortRuns'_eq]
  refine wpS_bind (wpS_get ?_)
  dsimp only
  obtain ⟨mr, hmr, hm1, hm2⟩ := minrun_of h64 h128
  simp only [hB.size, hmr]
  refine wpS_bind (wpS_mono (wpS_forRange
    (I := fun x c st' => (x = 0 ∧ c = (none, 0) ∧ Bs a₀ #[] st') ∨ (∃ n1, c = (none, n1) ∧ mr ≤ n1 ∧ 1 ≤ n1 ∧ n1 < a₀.size ∧ x = 1 ∧ Bs a₀ #[(0, n1, 0)] st' ∧ Seg (arrOf st') 0 n1) ∨ (1 ≤ x ∧ c = (none, a₀.size) ∧ (TwoR a₀ st' ∨ FinR a₀ st')))
    (Q := fun c st' => c = (none, a₀.size) ∧ (TwoR a₀ st' ∨ FinR a₀ st')) ?step ?fin (.inl ⟨rfl, rfl, ⟨hB.perm, hB.kind, hB.failed, hB.pend⟩⟩)) ?post)
  case fin =>
    rintro c st' (⟨hx, _⟩ | ⟨n1, _, _, _, _, hx, _⟩ | ⟨_, hc, hD⟩)
    · omega
    · omega
    · exact ⟨hc, hD⟩
  case step =>
    rintro x c st' _ hx (⟨rfl, rfl, hB'⟩ | ⟨n1, rfl, g1, g2, g3, rfl, hB', hS⟩ | ⟨hx1, rfl, hD⟩)
    · dsimp only
      rw [if_neg (by omega)]
      simp only [Nat.sub_zero, Nat.zero_add]
      refine wpS_bind (wp_count h0 (by omega) (by omega) hB' fun m st2 hB2 _ k1 k2 hs2 => ?_)
      rw [Nat.zero_add] at hs2
      dsimp only
      have push : ∀ (n : Nat) (st3 : SortSt), Bs a₀ #[] st3 → Seg (arrOf st3) 0 n → mr ≤ n → n ≤ a₀.size →
          (n = a₀.size ∧ FinR a₀ (setPending st3 ((pendingOf st3).push (0, n, 0)))) ∨ (1 ≤ n ∧ n < a₀.size ∧ Bs a₀ #[(0, n, 0)] (setPending st3 ((pendingOf st3).push (0, n, 0))) ∧ Seg (arrOf (setPending st3 ((pendingOf st3).push (0, n, 0)))) 0 n) := fun n st3 b1 b2 b3 b4 => by
        have ep : (pendingOf st3).push (0, n, 0) = #[(0, n, 0)] := by rw [b1.pend]; rfl
        by_cases z : n = a₀.size
        · subst z
          refine .inl ⟨rfl, b1.perm, b1.failed, ?_, fun i j a b => b2 i j (Nat.zero_le _) a b⟩
          show ((pendingOf st3).push (0, a₀.size, 0)).size ≤ 1
          rw [ep]
          exact Nat.le_refl 1
        · exact .inr ⟨by omega, by omega, ⟨b1.perm, b1.kind, b1.failed, ep⟩, b2⟩
      have back0 : ∀ st3 : SortSt, Bs a₀ #[] st3 → (pendingOf st3).back? = none := fun st3 b1 => by rw [b1.pend]; rfl
      by_cases hlt : m < mr
      · rw [if_pos hlt]
        refine wpS_bind (wpS_lift (wpAny_rule ⟨rfl, ?_⟩))
        simp only [Nat.min_eq_right hm1]
        refine wpS_bind (wp_bins (lo := 0) h0 (by omega) (by omega) hB2 (by rw [Nat.zero_add]; exact hs2) fun st3 hB3 _ hs3 => ?_)
        rw [Nat.zero_add] at hs3
        simp only [Bool.not_true, Bool.false_eq_true, if_false]
        refine wpS_bind (wpS_get ?_)
        rw [back0 st3 hB3]
        dsimp only
        refine wpS_bind (wpS_modify (wpS_pure ?_))
        rcases push mr st3 hB3 hs3 (Nat.le_refl _) hm1 with ⟨z1, z2⟩ | ⟨z1, z2, z3, z4⟩
        · exact .inr (.inr ⟨by omega, by rw [z1], .inr z2⟩)
        · exact .inr (.inl ⟨mr, rfl, Nat.le_refl _, z1, z2, by first | rfl | trivial, z3, z4⟩)
      · rw [if_neg hlt]
        refine wpS_bind (wpS_get ?_)
        rw [back0 st2 hB2]
        dsimp only
        refine wpS_bind (wpS_modify (wpS_pure ?_))
        rcases push m st2 hB2 hs2 (by omega) k2 with ⟨z1, z2⟩ | ⟨z1, z2, z3, z4⟩
        · exact .inr (.inr ⟨by omega, by rw [z1], .inr z2⟩)
        · exact .inr (.inl ⟨m, rfl, by omega, z1, z2, by first | rfl | trivial, z3, z4⟩)
    · dsimp only
      rw [if_neg (by omega)]
      refine wpS_bind (wp_count h0 (by omega) (by omega) hB' fun m st2 hB2 lw2 k1 k2 hs2 => ?_)
      dsimp only
      have segs : ∀ st3 : SortSt, Low n1 (arrOf st') (arrOf st3) → Seg (arrOf st3) 0 n1 := fun st3 lw i j a b c => by
        rw [lw i (by omega), lw j c]
        exact hS i j a b c
      by_cases hlt : m < mr
      case' pos =>
        rw [if_pos hlt]
        refine wpS_bind (wpS_lift (wpAny_rule ⟨rfl, ?_⟩))
        simp only [Nat.min_eq_left (show a₀.size - n1 ≤ mr by omega)]
        refine wpS_bind (wp_bins h0 (show n1 + (a₀.size - n1) ≤ a₀.size by omega) k2 hB2 hs2 fun st3 hB3 lw3 hs3 => ?_)
        simp only [Bool.not_true, Bool.false_eq_true, if_false]
        have F1 := segs st3 (lw2.trans lw3)
        clear hs2 hB2 lw2 lw3 k1 k2 hlt
      case' neg =>
        rw [if_neg hlt]
        obtain rfl : m = a₀.size - n1 := by omega
        have F1 := segs st2 lw2
        have hB3 := hB2
        have hs3 := hs2
        clear hs2 hB2 lw2 k1 k2 hlt
        generalize st2 = st3 at F1 hB3 hs3 ⊢
      all_goals
        refine wpS_bind (wpS_get ?_)
        have eb : (pendingOf st3).back? = some (0, n1, 0) := by rw [hB3.pend]; rfl
        rw [eb]
        dsimp only
        refine wpS_bind (wpS_mono (wpS_forRange (I := fun _ c st'' => st'' = st3 ∧ c = (none, ())) (Q := fun c st'' => st'' = st3 ∧ c = (none, ())) ?s2 (fun _ _ hh => hh) ⟨rfl, rfl⟩) ?p2)
        case s2 =>
          rintro y c st'' _ _ ⟨rfl, rfl⟩
          refine wpS_bind (wpS_get ?_)
          have e1 : (pendingOf st'').size = 1 := by rw [hB3.pend]; rfl
          rw [if_neg (by omega)]
          exact wpS_pure ⟨rfl, rfl⟩
        case p2 =>
          rintro c st'' ⟨rfl, rfl⟩
          dsimp only
          refine wpS_bind (wpS_modify (wpS_bind (wpS_modify (wpS_pure (.inr (.inr ⟨by omega, ?_, .inl ⟨n1, a₀.size - n1, power' a₀.size (2 * 0 + n1) (2 * 0 + n1 + n1 + (a₀.size - n1)) a₀.size, by omega, g2, by omega, ⟨hB3.perm, hB3.kind, hB3.failed, ?_⟩, F1, hs3⟩⟩))))))
          · rw [show n1 + (a₀.size - n1) = a₀.size by omega]
          · show ((pendingOf st'').modify ((pendingOf st'').size - 1) _).push _ = _
            rw [hB3.pend]
            rfl
    · dsimp only
      rw [if_pos (Nat.le_refl _)]
      exact wpS_pure ⟨rfl, hD⟩
  case post =>
    rintro c st' ⟨rfl, hD⟩
    dsimp only
    refine wpS_bind (wpS_mono (wpS_forRange (I := fun x c st'' => c = (none, ()) ∧ ((x = 0 ∧ TwoR a₀ st'') ∨ FinR a₀ st'')) (Q := fun c st'' => c = (none, ()) ∧ FinR a₀ st'') ?s3 ?f3 ⟨rfl, ?i3⟩) ?p3)
    case i3 =>
      rcases hD with z | z
      · exact .inl ⟨rfl, z⟩
      · exact .inr z
    case f3 =>
      rintro c st'' ⟨hc, ⟨hx, _⟩ | z⟩
      · omega
      · exact ⟨hc, z⟩
    case p3 =>
      rintro c st'' ⟨rfl, z1, z2, z3, z4⟩
      exact wpS_pure (h _ z1 z2 z4)
    case s3 =>
      rintro x c st'' _ hx ⟨rfl, ⟨rfl, n1, n2, pw, t1, t2, t3, t4, t5, t6⟩ | z⟩
      · refine wpS_bind (wpS_get ?_)
        rw [t4.pend]
        have e1 : (#[(0, n1, pw), (n1, n2, 0)] : Array (Nat × Nat × Nat)).size = 2 := rfl
        rw [e1, if_neg (by omega)]
        refine wpS_bind (wp_mAt h0 t4 t1 t2 t3 t5 t6 fun st4 u1 u2 u3 u4 => ?_)
        simp only [Bool.not_true, Bool.false_eq_true, if_false]
        exact wpS_pure ⟨rfl, .inr ⟨u1, u2, by rw [u3]; exact Nat.le_refl 1, u4⟩⟩
      · refine wpS_bind (wpS_get ?_)
        rw [if_pos z.2.2.1]
        exact wpS_pure ⟨rfl, z⟩
end
end Srt

set_option Elab.async false
set_option linter.all false
set_option maxRecDepth 100000
set_option maxHeartbeats 4000000
namespace Srt
open PySem PyProof.Rows
section
variable {prog : Program} {w : World} {A : Around} {E : Value → Shared → Prop} {s : Shared}
theorem tree_big {l : Addr} {us : List Value} {zs : List Int} {e0 : Nat} {P : Fin → Shared → Prop} (hl : s.heap.get? l = some (seqObj "list" us.toArray e0)) (hz : IntsAre us zs) (hlo : 64 ≤ us.length) (hhi : us.length < 128)
    (q : ∀ (out : Array Value) (ys : List Int), IntsAre out.toList ys → ys.Perm zs → ys.Pairwise (· ≤ ·) → P (.done (.ret .none)) { s with heap := sortedHeap s.heap l us out }) :
    wpAny (model prog w) A (Builtin.«list.sort» ⟨[.ref l], []⟩) P E s := by
  rw [list_sort_plain]
  have hlt : l < s.heap.objs.size := Heap.lt_size hl
  refine wpAny_bind (listItems_at hl rfl (wpAny_bind (listUpdate_at hl rfl ?_)))
  obtain ⟨e1, h1⟩ : ∃ e1, (s.heap.update l (Obj.mapSeq fun _ => #[])).get? l = some (seqObj "list" #[] e1) := ⟨_, get?_update_seq hl (fun _ => #[])⟩
  refine wpAny_bind (seqEpoch_at h1 rfl (wpAny_bind (wpAny_newTuple (wpAny_bind (wpAny_newList (wpAny_holding ?_))))))
  have h6 : (((s.heap.update l (Obj.mapSeq fun _ => #[])).push (seqObj "tuple" us.toArray 0)).push (seqObj "list" #[] 0)).get? l = some (seqObj "list" #[] e1) := by
    have n1 : l ≠ ((s.heap.update l (Obj.mapSeq fun _ => #[])).push (seqObj "tuple" us.toArray 0)).objs.size := by rw [size_push', Heap.size_update]; exact Nat.ne_of_lt (Nat.lt_succ_of_lt hlt)
    have n2 : l ≠ (s.heap.update l (Obj.mapSeq fun _ => #[])).objs.size := by rw [Heap.size_update]; exact Nat.ne_of_lt hlt
    rw [Heap.get?_push_ne _ _ _ n1, Heap.get?_push_ne _ _ _ n2]
    exact h1
  show wpAny (model prog w) A _ P E { s with heap := ((s.heap.update l (Obj.mapSeq fun _ => #[])).push (seqObj "tuple" us.toArray 0)).push (seqObj "list" #[] 0) }
  dsimp only
  have hn : ¬ us.toArray.size < 2 := by rw [List.size_toArray]; omega
  rw [if_neg hn, if_neg hn]
  obtain ⟨v1, v2, rest, rfl⟩ : ∃ v1 v2 rest, us = v1 :: v2 :: rest := by
    match us, hlo with
    | [], z => simp at z
    | [_], z => simp at z
    | v1 :: v2 :: rest, _ => exact ⟨v1, v2, rest, rfl⟩
  rw [keyKind_ints hz]
  refine wpAny_bind (wpAny_pure ?_)
  have run := wp_runs (prog := prog) (w := w) (A := A) (E := E) (s := { s with heap := ((s.heap.update l (Obj.mapSeq fun _ => #[])).push (seqObj "tuple" (v1 :: v2 :: rest).toArray 0)).push (seqObj "list" #[] 0) })
    (a₀ := pairsOf (v1 :: v2 :: rest)) (st := SortSt.mk' oneType' ((v1 :: v2 :: rest).toArray.zip (v1 :: v2 :: rest).toArray) #[] 7 none)
    (Q := fun _ z => (arrOf z).Perm (pairsOf (v1 :: v2 :: rest)) ∧ failedOf z = none ∧ SortedTo (arrOf z) (pairsOf (v1 :: v2 :: rest)).size)
    hz.intKeys ⟨Array.Perm.refl _, rfl, rfl, rfl⟩ (by rw [pairsOf_size]; exact hlo) (by rw [pairsOf_size]; exact hhi) fun z a1 a2 a3 => ⟨a1, a2, a3⟩
  refine wpAny_bind (wpAny_mono run ?_ fun _ _ e => e)
  rintro ⟨⟨⟩, z⟩ s' ⟨rfl, hp, hf, hs⟩
  dsimp only
  have hsz : ((arrOf z).map (·.2)).size = (v1 :: v2 :: rest).length := (Array.size_map ..).trans (hp.size_eq.trans (pairsOf_size _))
  refine wpAny_bind (seqEpoch_at h6 rfl (wpAny_bind (listUpdate_at h6 rfl ?_ (hsz2 := by rw [hsz, sizeLine_eq]; omega))))
  rw [hf]
  simp only [bne_self_eq_false, Bool.false_eq_true, if_false]
  obtain ⟨ys, y1, y2, y3⟩ := sorted_out hz hp hs
  exact wpAny_pure (q _ ys y1 y2 y3)
theorem tree_any {l : Addr} {us : List Value} {zs : List Int} {e0 : Nat} {P : Fin → Shared → Prop} (hl : s.heap.get? l = some (seqObj "list" us.toArray e0)) (hz : IntsAre us zs) (hhi : us.length < 128)
    (q : ∀ (out : Array Value) (ys : List Int), IntsAre out.toList ys → ys.Perm zs → ys.Pairwise (· ≤ ·) → P (.done (.ret .none)) { s with heap := sortedHeap s.heap l us out }) :
    wpAny (model prog w) A (Builtin.«list.sort» ⟨[.ref l], []⟩) P E s := by
  by_cases h : us.length < 64
  · exact list_sort_tree hl hz h q
  · exact tree_big hl hz (by omega) hhi q
end
end Srt

set_option Elab.async false
set_option linter.all false
set_option maxRecDepth 100000
set_option maxHeartbeats 4000000
namespace L3
open PySem PySem.Spec PyProof.Rows L2
section
variable {X : Cx}
end
end L3

set_option Elab.async false
set_option linter.all false
set_option maxRecDepth 100000
set_option maxHeartbeats 4000000
namespace L3
open PySem PySem.Spec PyProof.Rows L2
section
variable {X : Cx}
end
end L3

set_option Elab.async false
set_option linter.all false
set_option maxRecDepth 100000
set_option maxHeartbeats 4000000
namespace St1
open PySem
def Rising (xs : Array Nat) : Prop := ∀ i j (hi : i < xs.size) (hj : j < xs.size), i < j → xs[i] < xs[j]
theorem below_go {xs : Array Nat} (hr : Rising xs) (j : Nat) : ∀ (fuel lo hi : Nat), hi - lo ≤ fuel → lo ≤ hi → hi ≤ xs.size → (∀ i (h : i < xs.size), i < lo → xs[i] < j) → (∀ i (h : i < xs.size), hi ≤ i → j ≤ xs[i]) →
    SetTable.below.go xs j fuel lo hi ≤ xs.size ∧ (∀ i (h : i < xs.size), i < SetTable.below.go xs j fuel lo hi → xs[i] < j) ∧ ∀ i (h : i < xs.size), SetTable.below.go xs j fuel lo hi ≤ i → j ≤ xs[i]
  | 0, lo, hi, hf, hl, hs, h1, h2 => by
    have : lo = hi := by omega
    subst this
    exact ⟨hs, h1, h2⟩
  | fuel + 1, lo, hi, hf, hl, hs, h1, h2 => by
    unfold SetTable.below.go
    by_cases z : lo < hi
    · rw [if_pos z]
      dsimp only
      have hm : (lo + hi) / 2 < xs.size := by omega
      have e : xs.getD ((lo + hi) / 2) j = xs[(lo + hi) / 2] := by simp [Array.getD, hm]
      rw [e]
      by_cases y : xs[(lo + hi) / 2] < j
      · rw [if_pos y]
        exact below_go hr j fuel _ hi (by omega) (by omega) hs (fun i h hi' => by
          by_cases q : i = (lo + hi) / 2
          · subst q; exact y
          · exact Nat.lt_trans (hr i _ h hm (by omega)) y) h2
      · rw [if_neg y]
        exact below_go hr j fuel lo _ (by omega) (by omega) (by omega) h1 (fun i h hi' => by
          by_cases q : i = (lo + hi) / 2
          · subst q; omega
          · exact Nat.le_trans (Nat.le_of_not_lt y) (Nat.le_of_lt (hr _ i hm h (by omega))))
    · rw [if_neg z]
      have : lo = hi := by omega
      subst this
      exact ⟨hs, h1, h2⟩
theorem below_ok {xs : Array Nat} (hr : Rising xs) (j : Nat) : SetTable.below xs j ≤ xs.size ∧ (∀ i (h : i < xs.size), i < SetTable.below xs j → xs[i] < j) ∧ ∀ i (h : i < xs.size), SetTable.below xs j ≤ i → j ≤ xs[i] := by
  unfold SetTable.below
  exact below_go hr j xs.size 0 xs.size (by omega) (Nat.zero_le _) (Nat.le_refl _) (fun i h hi => absurd hi (Nat.not_lt_zero _)) (fun i h hi => absurd h (by omega))
theorem insert_list {α : Type} (xs : Array α) (p : Nat) (x : α) : (SetTable.insertAt xs p x).toList = xs.toList.take p ++ x :: xs.toList.drop p := by
  unfold SetTable.insertAt
  simp [List.take_of_length_le]
theorem rising_iff {xs : Array Nat} : Rising xs ↔ xs.toList.Pairwise (· < ·) := by
  rw [List.pairwise_iff_getElem]
  constructor
  · intro h i j hi hj hij
    exact h i j (by simpa using hi) (by simpa using hj) hij
  · intro h i j hi hj hij
    exact h i j (by simpa using hi) (by simpa using hj) hij
theorem insert_rising {xs : Array Nat} (hr : Rising xs) {j : Nat} (hj : xs[SetTable.below xs j]? ≠ some j) : Rising (SetTable.insertAt xs (SetTable.below xs j) j) := by
  obtain ⟨h0, h1, h2⟩ := below_ok hr j
  have hp := rising_iff.mp hr
  rw [rising_iff, insert_list, List.pairwise_append, List.pairwise_cons]
  have lo : ∀ a ∈ xs.toList.take (SetTable.below xs j), a < j := fun a ha => by
    obtain ⟨i, hi, e⟩ := List.getElem_of_mem ha
    rw [List.length_take, Array.length_toList] at hi
    rw [← e, List.getElem_take, Array.getElem_toList]
    exact h1 i (by omega) (by omega)
  have hi' : ∀ a ∈ xs.toList.drop (SetTable.below xs j), j < a := fun a ha => by
    obtain ⟨i, hi, e⟩ := List.getElem_of_mem ha
    rw [List.length_drop, Array.length_toList] at hi
    rw [← e, List.getElem_drop, Array.getElem_toList]
    have a1 := h2 (SetTable.below xs j) (by omega) (Nat.le_refl _)
    have a2 : xs[SetTable.below xs j]'(by omega) ≠ j := fun z => hj (by rw [Array.getElem?_eq_getElem (by omega), z])
    by_cases q : i = 0
    · subst q
      simp only [Nat.add_zero]
      omega
    · have := hr (SetTable.below xs j) (SetTable.below xs j + i) (by omega) (by omega) (by omega)
      omega
  refine ⟨hp.sublist (List.take_sublist _ _), ⟨hi', hp.sublist (List.drop_sublist _ _)⟩, fun a ha b hb => ?_⟩
  rcases List.mem_cons.mp hb with e | e
  · rw [e]; exact lo a ha
  · exact Nat.lt_trans (lo a ha) (hi' b e)
def SlotFree (t : SetTable) (j : Nat) : Prop := t.place[SetTable.below t.place j]? ≠ some j
theorem slot_free {t : SetTable} {j : Nat} (h : ∀ i, t.slot j ≠ .live i) : SlotFree t j := fun z => by
  unfold SetTable.slot at h
  simp only [z, beq_self_eq_true, if_true] at h
  exact h _ rfl
theorem probe_go {t : SetTable} {g : Nat → Int} {h : Int} : ∀ (fuel : Nat) (p : SetTable.Probe) (j : Nat) (d : Option Nat), (∀ x, p.dummy = some x → SlotFree t x) → SetTable.probe.go t g h fuel p = some (.empty j d) → SlotFree t j ∧ ∀ x, d = some x → SlotFree t x
  | 0, _, _, _, _, e => by unfold SetTable.probe.go at e; cases e
  | fuel + 1, p, j, d, hd, e => by
    unfold SetTable.probe.go at e
    split at e
    · next hs =>
      injection e with e
      injection e with e1 e2
      subst e1; subst e2
      exact ⟨slot_free (fun i z => by rw [hs] at z; cases z), hd⟩
    · next hs =>
      refine probe_go fuel _ j d (fun x hx => ?_) e
      have : (t.advance { p with dummy := some p.j }).dummy = some p.j := by
        unfold SetTable.advance
        split <;> rfl
      rw [this] at hx
      injection hx with hx
      subst hx
      exact slot_free fun i z => by rw [hs] at z; cases z
    · split at e
      · injection e with e
        cases e
      · refine probe_go fuel _ j d (fun x hx => hd x ?_) e
        have : (t.advance p).dummy = p.dummy := by
          unfold SetTable.advance
          split <;> rfl
        rw [this] at hx
        exact hx
theorem free_slot {t : SetTable} {h : Int} {s : Nat} {b : Bool} (e : t.freeSlot h = some (s, b)) : SlotFree t s := by
  unfold SetTable.freeSlot at e
  split at e
  · next j d hp =>
    injection e with e
    injection e with e1 e2
    unfold SetTable.probe at hp
    have := probe_go _ _ j d (fun x hx => by unfold SetTable.probeStart at hx; cases hx) hp
    cases d with
    | none => have e1' : j = s := e1; rw [← e1']; exact this.1
    | some x => have e1' : x = s := e1; rw [← e1']; exact this.2 x rfl
  · cases e
structure TI (b : Bool) (t : SetTable) : Prop where
  led : t.led = b
  up : t.plain = true → Rising t.place
theorem TI.standIn {b : Bool} {t : SetTable} (h : TI b t) (n : Nat) : TI b (t.standIn n) := ⟨h.led, fun z => by cases z⟩
theorem TI.lay {b : Bool} {t : SetTable} (h : TI b t) (es : Array (Int × Value)) (k : Int) (x : Value) : TI b (layNew t es k x).2.1 := by
  unfold layNew
  split
  · next slot wd e =>
    dsimp only
    unfold SetTable.orStandIn
    have hf := free_slot e
    have hput : TI b (t.put slot).1 := ⟨h.led, fun z => insert_rising (h.up z) hf⟩
    split
    · exact hput
    · exact hput.standIn _
  · exact h.standIn _
theorem range_some {f : Nat → Option (Nat × Nat)} (hf : ∀ j p, f j = some p → p.1 = j) (n : Nat) : (((List.range n).filterMap f).map (·.1)).Pairwise (· < ·) := by
  rw [List.pairwise_map, List.pairwise_filterMap]
  refine List.pairwise_lt_range.imp fun {a b} hab x hx y hy => ?_
  rw [hf a x hx, hf b y hy]
  exact hab
theorem TI.relay {b : Bool} {t : SetTable} (h : TI b t) (es : Array (Int × Value)) (wanted : Nat) : TI b (relayAll t es wanted).2.1 := by
  unfold relayAll
  split
  · next t' order e =>
    dsimp only
    split
    · unfold SetTable.relaid SetTable.laid at e
      cases ho : SetTable.layClean (SetTable.sizeAbove wanted - 1) (es.map (·.1)) with
      | none => rw [ho] at e; cases e
      | some owner =>
        rw [ho] at e
        have e' := Option.some.inj e
        injection e' with e1 e2
        rw [← e1]
        refine ⟨h.led, fun _ => rising_iff.mpr ?_⟩
        show ((List.map _ _).toArray.toList).Pairwise (· < ·)
        refine range_some (fun j p hp => ?_) _
        cases ho2 : owner.getD j none with
        | none => rw [ho2] at hp; cases hp
        | some q => rw [ho2] at hp; have := Option.some.inj hp; rw [← this]
    · exact h.standIn _
  · exact h.standIn _
end St1

set_option Elab.async false
set_option linter.all false
set_option maxRecDepth 100000
set_option maxHeartbeats 4000000
namespace St1
open PySem PyProof.Rows
section
variable {prog : Program} {w : World} {A : Around} {E : Value → Shared → Prop} {s : Shared}
def SetT (prog : Program) (w : World) (b : Bool) (h : Heap) (a : Addr) (S : Int → Bool) (n : Nat) : Prop :=
  ∃ o es ep t, h.get? a = some o ∧ o.ExactSet ∧ o.data = .set es ep t ∧ ElemsOf (intKind prog w) es.toList ∧ (∀ k, S k = true ↔ ∃ e ∈ es.toList, (intKind prog w).is k e.2 = true)
    ∧ es.size < scanBound ∧ t.fits es.size = true ∧ es.size = n ∧ TI b t
theorem SetT.congr {b : Bool} {h : Heap} {a : Addr} {S S' : Int → Bool} {n n' : Nat} (x : SetT prog w b h a S n) (e : ∀ k, S k = S' k) (en : n = n') : SetT prog w b h a S' n' := by
  have : S = S' := funext e
  subst this; subst en
  exact x
theorem SetT.at {b : Bool} {h h' : Heap} {a : Addr} {S : Int → Bool} {n : Nat} (x : SetT prog w b h a S n) (e : ∀ o, h.get? a = some o → h'.get? a = some o) : SetT prog w b h' a S n :=
  let ⟨o, es, ep, t, h1, r⟩ := x
  ⟨o, es, ep, t, e _ h1, r⟩
theorem tail_T {g : Bool → Sem Unit} (hg : ∀ (b : Bool) (s₁ : Shared) (Q' : Unit → Shared → Prop), Q' () s₁ → wpAny (model prog w) A (g b) Q' E s₁) {b : Bool}
    {a : Addr} {o : Obj} {es : Array (Int × Value)} {ep : Nat} {t : SetTable} (ho : s.heap.get? a = some o) (hex : o.ExactSet) (hd : o.data = .set es ep t)
    {es1 : Array (Int × Value)} {t2 : SetTable} {S' : Int → Bool} (hel1 : ElemsOf (intKind prog w) es1.toList) (hmem1 : ∀ k', S' k' = true ↔ ∃ e ∈ es1.toList, (intKind prog w).is k' e.2 = true)
    (hb1 : es1.size < scanBound) (hf2 : t2.fits es1.size = true) (ti : TI b t2) {wasDummy : Bool} {R : Option Bool → Shared → Prop}
    (h : ∀ h', Heap.SameBut a s.heap h' → SetT prog w b h' a S' es1.size → R (some true) { s with heap := h' }) :
    wpAny (model prog w) A (do
        storeSet a es1 t2
        if (!wasDummy && t2.tooFull) = true then do
            g (relayAll t2 es1 (SetTable.grown es1.size)).2.2
            storeSet a (relayAll t2 es1 (SetTable.grown es1.size)).1 (relayAll t2 es1 (SetTable.grown es1.size)).2.1
            pure (some true)
          else pure (some true)) R E s := by
  refine wpAny_bind (wpAny_storeSet_of ho hd ?_ (fits_of_scanBound hb1))
  obtain ⟨ho1, _⟩ := SetOf_store (knd := intKind prog w) ho hex hd hel1 hmem1 hb1 hf2
  have sb := Heap.SameBut.update s.heap a (Obj.putSet es1 t2)
  split
  · have hp := relayAll_perm t2 es1 (SetTable.grown es1.size)
    have hfr := relayAll_fits t2 es1 (SetTable.grown es1.size)
    have tr := ti.relay es1 (SetTable.grown es1.size)
    generalize relayAll t2 es1 (SetTable.grown es1.size) = Rl at hp hfr tr ⊢
    obtain ⟨es2, t3, gave2⟩ := Rl
    dsimp only at hp hfr tr ⊢
    have hel2 := hel1.perm hp
    have hmem2 : ∀ k', S' k' = true ↔ ∃ e ∈ es2.toList, (intKind prog w).is k' e.2 = true := fun k' => (hmem1 k').trans ⟨fun ⟨e, he, q⟩ => ⟨e, hp.mem_iff.mpr he, q⟩, fun ⟨e, he, q⟩ => ⟨e, hp.mem_iff.mp he, q⟩⟩
    have hsz : es2.size = es1.size := by rw [← Array.length_toList, hp.length_eq, Array.length_toList]
    have hb2 : es2.size < scanBound := by rw [hsz]; exact hb1
    refine wpAny_bind (hg _ _ _ (wpAny_bind (wpAny_storeSet_of ho1 rfl ?_ (fits_of_scanBound hb2))))
    obtain ⟨ho2, _⟩ := SetOf_store (knd := intKind prog w) ho1 hex rfl hel2 hmem2 hb2 hfr
    exact wpAny_pure (h _ (sb.trans (Heap.SameBut.update _ a _)) ⟨_, es2, _, t3, ho2, hex, rfl, hel2, hmem2, hb2, hfr, hsz, tr⟩)
  · exact wpAny_pure (h _ sb ⟨_, es1, _, t2, ho1, hex, rfl, hel1, hmem1, hb1, hf2, rfl, ti⟩)
theorem add_T {b : Bool} {a : Addr} {S : Int → Bool} {n : Nat} {k : Int} {x : Value} {Q : Bool → Shared → Prop} (hkey : (intKind prog w).is k x = true) (hsc : x.scannable = true) (hS : SetT prog w b s.heap a S n)
    (hroom : n + 1 < scanBound)
    (h : ∀ h', Heap.SameBut a s.heap h' → SetT prog w b h' a (fun k' => S k' || decide (k' = k)) (if S k then n else n + 1) → Q (!S k) { s with heap := h' }) :
    wpAny (model prog w) A (setAddHashed a x ((intKind prog w).hash k)) Q E s := by
  obtain ⟨o, es, ep, t, ho, hex, hd, hel, hmem, hb, hf, hn, ti⟩ := hS
  have hb1 : es.size + 1 < scanBound := by rw [hn]; exact hroom
  unfold setAddHashed setAddHashedIn
  refine wpAny_holding (wpAny_bind (wpAny_setState_of ho hd hf ?_))
  dsimp only
  rw [byScan_of hsc hb hel]
  simp only [↓reduceIte]
  unfold setAddByScan
  refine wpAny_bind (wpAny_bind (wpAny_rule (wpAny_bind (wpAny_setScan_of hkey ho hd hf hel ?_))))
  cases hr : List.findIdx? (fun e => (intKind prog w).is k e.2) es.toList with
  | some j =>
    dsimp only
    obtain ⟨hj, hpj, _⟩ := List.findIdx?_eq_some_iff_getElem.mp hr
    have hSk : S k = true := (hmem k).mpr ⟨es.toList[j], List.getElem_mem hj, hpj⟩
    refine wpAny_pure (wpAny_pure ?_)
    have e : s = { s with heap := s.heap } := by cases s; rfl
    have := h s.heap (Heap.SameBut.refl a s.heap) ⟨o, es, ep, t, ho, hex, hd, hel, fun k' => by
      rw [Bool.or_eq_true, decide_eq_true_eq, ← hmem k']
      exact ⟨fun hk => hk.elim id (fun e => e ▸ hSk), .inl⟩, hb, hf, by rw [hSk]; exact hn, ti⟩
    rw [hSk] at this
    rw [e]
    exact this
  | none =>
    dsimp only
    have hSk : S k = false := by
      cases hk : S k with
      | false => rfl
      | true => obtain ⟨e, he, hp⟩ := (hmem k).mp hk; have := List.findIdx?_eq_none_iff.mp hr e he; rw [hp] at this; exact Bool.noConfusion this
    have hperm := layNew_perm t es ((intKind prog w).hash k) x
    have hfits := layNew_fits t es ((intKind prog w).hash k) x
    have tl := ti.lay es ((intKind prog w).hash k) x
    generalize layNew t es ((intKind prog w).hash k) x = L at hperm hfits tl ⊢
    obtain ⟨es1, t1, wasDummy, gave⟩ := L
    dsimp only at hperm hfits tl ⊢
    rw [Array.toList_push] at hperm
    have hel1 := (hel.push hkey hsc).perm hperm
    have hmem1 : ∀ k', (S k' || decide (k' = k)) = true ↔ ∃ e ∈ es1.toList, (intKind prog w).is k' e.2 = true := mem_push_iff hkey hmem hperm
    have hb1' : es1.size < scanBound := by rw [← Array.length_toList, hperm.length_eq, List.length_append, Array.length_toList]; simpa using hb1
    have hsz1 : es1.size = n + 1 := by rw [← Array.length_toList, hperm.length_eq, List.length_append, Array.length_toList, hn]; rfl
    have hend : ∀ h', Heap.SameBut a s.heap h' → SetT prog w b h' a (fun k' => S k' || decide (k' = k)) es1.size → Q true { s with heap := h' } := by
      intro h' hsb hS'; have := h h' hsb; rw [hSk] at this; rw [hsz1] at hS'; exact this hS'
    have hgw : ∀ (b : Bool) (s₁ : Shared) (Q' : Unit → Shared → Prop), Q' () s₁ → wpAny (model prog w) A (match b with | true => rule "set.scan.the-table-gave-way" | false => pure ()) Q' E s₁ :=
      fun b s₁ Q' hq => by cases b <;> first | exact wpAny_pure hq | exact wpAny_rule hq
    refine wpAny_bind (hgw _ _ _ ?_)
    split
    · refine wpAny_bind ?_
      rw [hashByValue_scannable 8 hsc]
      refine wpAny_pure ?_
      refine tail_T (b := b) hgw ho hex hd hel1 hmem1 hb1' ?_ ?_ ?_
      · split
        · exact hfits
        · exact SetTable.fits_plain_off hfits
      · split
        · exact tl
        · exact ⟨tl.led, fun z => by cases z⟩
      · intro h' hsb hS'; dsimp only; exact wpAny_pure (hend h' hsb hS')
    · refine wpAny_bind (wpAny_pure ?_)
      simp only [↓reduceIte]
      refine tail_T hgw ho hex hd hel1 hmem1 hb1' hfits tl ?_
      intro h' hsb hS'; dsimp only; exact wpAny_pure (hend h' hsb hS')
end
end St1

set_option Elab.async false
set_option linter.all false
set_option maxRecDepth 100000
set_option maxHeartbeats 4000000
namespace St1
open PySem PyProof.Rows
section
variable {prog : Program} {w : World} {A : Around} {R : Result → Shared → Prop} {I : Addr} {fp wr : List Addr} {G : Array GenState → Array GenState → Prop} {n : Nat} {P : Nat → Value → Prop} {St : Nat → Shared → Prop}
theorem loop_T (W : WalksS prog w A.in1 I fp wr G n P St) {b : Bool} (S : Addr) (hSf : S ∉ fp)
    (val : Nat → Int) (hval : ∀ i v, P i v → ∃ t, v = .int (val i) t) (hb : n + 1 < scanBound) :
    ∀ (k i : Nat) (s : Shared), n - i = k → i ≤ n → St i s →
      SetT prog w b s.heap S (fun k' => (firstMet val i).any (· == k')) (firstMet val i).length →
      (∀ s', Moved (S :: wr) G s s' → SetT prog w b s'.heap S (fun k' => (firstMet val n).any (· == k')) (firstMet val n).length → R (.ok (.ret .none)) s') →
      codeAny (model prog w) A (.builtin "set.update.loop" ⟨[.ref S, .ref I], []⟩) R s := by
  have hSw : S ∉ wr := fun h => hSf (W.sub _ h)
  have hsub : ∀ b ∈ wr, b ∈ S :: wr := fun b hb => List.mem_cons_of_mem _ hb
  intro k
  induction k with
  | zero =>
    intro i s hk hi hst hS hR
    have hin : i = n := by omega
    subst hin
    refine codeAny_builtin F.entry_set_update_loop ?_
    rw [Around.under_plainId F.plain_set_update_loop _]
    show wpAny _ A.in1 (pyNext (.ref I) >>= _) _ _ s
    refine wpAny_bind (W.done s _ _ hst fun s' hm => ?_)
    show wpAny _ A.in1 (ret Value.none) _ _ s'
    exact wpAny_pure (hR s' (hm.mono hsub) (hS.at fun o e => hm.heap S _ hSw e))
  | succ k ih =>
    intro i s hk hi hst hS hR
    have hlt : i < n := by omega
    refine codeAny_builtin F.entry_set_update_loop ?_
    rw [Around.under_plainId F.plain_set_update_loop _]
    show wpAny _ A.in1 (pyNext (.ref I) >>= _) _ _ s
    refine wpAny_bind (W.item i s _ _ hlt hst fun v s' hP hst' hm => ?_)
    obtain ⟨t, rfl⟩ := hval i v hP
    have hS' := hS.at (h' := s'.heap) fun o e => hm.heap S _ hSw e
    show wpAny _ A.in1 (holding [Value.int (val i) t] (setAdd S (.int (val i) t)) >>= _) _ _ s'
    refine wpAny_bind (wpAny_holding ?_)
    unfold setAdd
    refine wpAny_holding ?_
    refine wpAny_bind ((intKind prog w).pyHash (k := val i) (intKind_is _ _ _ _) ?_)
    have hroom : (firstMet val i).length + 1 < scanBound := by have := firstMet_length_le val i; omega
    refine add_T (s := { s' with toks := s'.toks + 1 }) (intKind_is _ _ _ _) rfl hS' hroom fun h' hsb hS2 => ?_
    have hSi := hS2.congr (S' := fun k' => (firstMet val (i + 1)).any (· == k')) (n' := (firstMet val (i + 1)).length) (fun k' => by rw [firstMet_succ, step_any]) (by rw [firstMet_succ, step_length])
    refine wpAny_pure ⟨plainId_quiet F.plain_set_update_loop _, ih (i + 1) _ (by omega) hlt (W.frame _ s' _ _ hst' (Nat.le_succ _) fun b hb o e => ?_) hSi fun s'' hm'' hS'' => ?_⟩
    · rw [hsb.2 b (fun h : b = S => hSf (by rw [← h]; exact hb))]; exact e
    · refine hR s'' (Moved.trans W.gtrans ((hm.mono hsub).then_heap (Nat.le_succ _) fun b o hb e => ?_) hm'') hS''
      rw [hsb.2 b (fun h : b = S => hb (by rw [h]; exact List.mem_cons_self))]; exact e
end
section
variable {prog : Program} {w : World} {A : Around} {E : Value → Shared → Prop} {s : Shared}
abbrev byT (w : World) : Bool := w.params.followText "set-order"
theorem new_T (a : Value) {Q₁ : Value → Shared → Prop}
    (h : Q₁ (.ref s.heap.objs.size) { s with heap := s.heap.push { cls := .type "set", dict := none, data := .set #[] 0 (.fresh 0 0 (!byT w)) } }) :
    codeAny (model prog w) A (.call (.builtin "set.__new__") ⟨[.type "set", a], []⟩) (wants Q₁ E) s := by
  refine codeAny_of_tree ?_
  show wpAny _ A.in1 (do checkBuiltinCall "set.__new__" ⟨[.type "set", a], []⟩; again (.builtin "set.__new__" ⟨[.type "set", a], []⟩)) _ _ s
  refine wpAny_bind (wpAny_of_eq (F.newCall_set_1 a) (wpAny_pure ⟨plainId_quiet F.plain_set_new _, codeAny_builtin F.entry_set_new ?_⟩))
  rw [Around.under_plainId F.plain_set_new _]
  unfold Builtin.«set.__new__» Builtin.Frozenset.newClass
  have hsub := sub_set_self
  obtain ⟨hp, g, d, tk, os⟩ := s
  dsimp only
  wp_walk
  refine wpAny_askSetting (wpAny_pure ?_)
  dsimp only
  simp only [newObj]
  refine wpAny_bind (wpAny_alloc (wpAny_pure ?_))
  exact wpAny_pure h
theorem call_set_T {l : Addr} {items : Array Value} {ns : List Int} {Q : Value → Shared → Prop}
    (hh : A.handled = none) (hl : s.heap.IsList l items) (hi : PyProof.Rows.IntsAre items.toList ns) (hb : items.size + 1 < scanBound)
    (h : ∀ (h' : Heap) (tk : Nat), SetT prog w (!byT w) h' s.heap.objs.size (fun k' => (firstMet (fun i => ns.getD i 0) items.size).any (· == k')) (firstMet (fun i => ns.getD i 0) items.size).length →
      (∀ b o, b < s.heap.objs.size → s.heap.get? b = some o → h'.get? b = some o) → Q (.ref s.heap.objs.size) { s with heap := h', toks := tk }) :
    wpAny (model prog w) A (call (.type "set") [.ref l]) Q E s := by
  obtain ⟨c, tl, hmro⟩ := F.called_set.mro
  have hmade := F.called_set.made
  have hsub := F.called_set.sub
  refine wpAny_call (codeAny_of_tree ?_)
  show wpAny _ _ (callAny (.type "set") _) _ _ _
  refine wpAny_pure ⟨Code.quiet_builtin _ (by decide +kernel), codeAny_builtin F.entry_type_call ?_⟩
  rw [Around.under_plain (weight_type_call_type "set" [.ref l] []) rfl]
  have h1 := F.called_set.notType
  have h2 := F.called_set.canCreate
  have hct := F.typeCall_set_1 (.ref l)
  repeat (any_goals (first | assumption | wp_step))
  obtain ⟨led, hled⟩ : ∃ led : Bool, led = !byT w := ⟨_, rfl⟩
  refine codeAny_mono (new_T (.ref l) (E := E) (Q₁ := fun obj s₁ => obj = .ref s.heap.objs.size ∧ s₁ = { s with heap := s.heap.push { cls := .type "set", dict := none, data := .set #[] 0 (.fresh 0 0 led) } }) ⟨rfl, by rw [hled]⟩) fun r s₁ hr => ?_
  cases r with
  | error e => exact hr
  | ok fl =>
    cases fl with
    | ret obj =>
      obtain ⟨rfl, rfl⟩ := hr
      have hS : (s.heap.push { cls := .type "set", dict := none, data := .set #[] 0 (.fresh 0 0 led) }).get? s.heap.objs.size = some { cls := .type "set", dict := none, data := .set #[] 0 (.fresh 0 0 led) } := Heap.get?_push_size _ rfl
      have hT : Shared.TypeIs { s with heap := s.heap.push { cls := .type "set", dict := none, data := .set #[] 0 (.fresh 0 0 led) } } (.ref s.heap.objs.size) "set" := ⟨_, hS, rfl⟩
      have hli := F.called_set.init.lookup
      have hbi := F.called_set.init.bind (.ref s.heap.objs.size)
      repeat (any_goals (first | assumption | wp_step))
      refine codeAny_mono (codeAny_call_builtin (R := wants (fun r s₂ => r = .none ∧ ∃ h' tk, s₂ = { s with heap := h', toks := tk } ∧
          SetT prog w (!byT w) h' s.heap.objs.size (fun k' => (firstMet (fun i => ns.getD i 0) items.size).any (· == k')) (firstMet (fun i => ns.getD i 0) items.size).length ∧
          (∀ b o, b < s.heap.objs.size → s.heap.get? b = some o → h'.get? b = some o)) E) F.called_set.init.plain F.entry_set_init (check_set_init_1 hT ?_)) fun r₂ s₂ hr₂ => ?_
      · obtain ⟨ol, hol, hcl, nl, hdl⟩ := hl
        obtain ⟨ocls, odict, odata, oslots⟩ := ol
        simp only at hcl hdl
        subst hcl; subst hdl
        have hol' : (s.heap.push { cls := .type "set", dict := none, data := .set #[] 0 (.fresh 0 0 led) }).get? l = some { cls := .type "list", dict := odict, data := .seq items nl, slots := oslots } := Heap.get?_push_of_some _ hol
        have hsls := F.sub_list_set
        have hslf := F.sub_list_frozenset
        have hne : (Value.type "list" == Value.type "dict") = false := by decide
        have hl1 : (s.heap.push { cls := .type "set", dict := none, data := .set #[] 0 (.fresh 0 0 led) }).IsList l items := ⟨_, hol', rfl, nl, rfl⟩
        unfold Builtin.«set.__init__» noKeywords Builtin.Frozenset.updateFrom
        generalize hPI : pyIter = PI
        wp_walk
        subst hPI
        refine wpAny_pyIter_list hl1 ?_
        refine wpAny_bind (wpAny_runValue ?_)
        have hlS : l < s.heap.objs.size := Heap.lt_size hol
        have hh3 : A.in1.in1.in1.handled = none := by simp [hh]
        have hneI : l ≠ (s.heap.push { cls := .type "set", dict := none, data := .set #[] 0 (.fresh 0 0 led) }).objs.size := by
          rw [Heap.size_push]; exact Nat.ne_of_lt (Nat.lt_succ_of_lt hlS)
        have hSf : s.heap.objs.size ∉ [(s.heap.push { cls := .type "set", dict := none, data := .set #[] 0 (.fresh 0 0 led) }).objs.size, l] := by
          rw [Heap.size_push]; simp only [List.mem_cons, List.mem_singleton, List.not_mem_nil, or_false, not_or]
          exact ⟨Nat.ne_of_lt (Nat.lt_succ_self _), Nat.ne_of_gt hlS⟩
        have hval : ∀ (i : Nat) (v : Value), items[i]? = some v → ∃ t, v = .int ((fun i => ns.getD i 0) i) t := fun i v hv =>
          IntsAre.int_at hi i v (by rw [Array.getElem?_toList]; exact hv)
        refine loop_T ((Walks.list hh3 _ l hneI items).toS) (b := !byT w) s.heap.objs.size
          hSf (fun i => ns.getD i 0) hval hb (items.size - 0) 0 _ (by omega) (Nat.zero_le _)
          ⟨⟨_, Heap.get?_push_size _ rfl, rfl, rfl⟩, (hl1.push _)⟩ ?hS0 ?hR
        case hS0 =>
          have hget : ((s.heap.push { cls := .type "set", dict := none, data := .set #[] 0 (.fresh 0 0 led) }).push { cls := .type "list_iterator", data := .fields #[.ref l, .int 0 0] }).get? s.heap.objs.size
              = some { cls := .type "set", dict := none, data := .set #[] 0 (.fresh 0 0 led) } := Heap.get?_push_of_some _ hS
          refine ⟨_, #[], 0, .fresh 0 0 led, hget, ⟨rfl, rfl, rfl⟩, rfl, fun e he => by simp at he, fun k => ?_, by decide, by rfl, rfl, hled, fun _ i j hi' => absurd hi' (Nat.not_lt_zero _)⟩
          constructor
          · intro z
            rw [firstMet_zero] at z
            cases z
          · rintro ⟨e, he, _⟩
            simp at he
        case hR =>
          intro s' hm hS'
          obtain ⟨h', g', d', tk', os'⟩ := s'
          have eg : g' = s.gens := hm.gens
          have ed : d' = s.drawn := hm.drawn
          have eo : os' = s.os := hm.os
          subst eg; subst ed; subst eo
          show wpAny _ _ _ _ _ _
          refine wpAny_pure ?_
          show wpAny _ _ (ret Value.none) _ _ _
          refine wpAny_pure ⟨rfl, h', tk', rfl, hS', fun b o hb e => ?_⟩
          have hb1 : b ≠ s.heap.objs.size := Nat.ne_of_lt hb
          have hb2 : b ≠ (s.heap.push { cls := .type "set", dict := none, data := .set #[] 0 (.fresh 0 0 led) }).objs.size := by
            rw [Heap.size_push]; exact Nat.ne_of_lt (Nat.lt_succ_of_lt hb)
          exact hm.heap b o (by simp only [List.mem_cons, List.mem_singleton, List.not_mem_nil, or_false, not_or]; exact ⟨hb1, hb2⟩) (Heap.get?_push_of_some _ (Heap.get?_push_of_some _ e))
      · cases r₂ with
        | error e => exact hr₂
        | ok fl₂ =>
          cases fl₂ with
          | ret r =>
            obtain ⟨rfl, h', tk, rfl, hS', hk'⟩ := hr₂
            repeat (any_goals (first | assumption | wp_step))
            exact h _ _ hS' hk'
          | _ => exact hr₂.elim
    | _ => exact hr.elim
end
end St1

set_option Elab.async false
set_option linter.all false
set_option maxRecDepth 100000
set_option maxHeartbeats 4000000
namespace St1
open PySem PyProof.Rows
theorem own_setit : Manifest.owners.lookup (String.ofList ['r', 'o', 't', 'a', 'r', 'e', 't', 'i', '_', 't', 'e', 's'].reverse) = some Manifest.sig_set_iterator := by kernel_rfl
theorem slot_setit : Slot "set_iterator" "__next__" "set_iterator.__next__" :=
  .of (owner := "set_iterator") (n := "__next__") (by rw [typeLookup_type, builtinLookup_eq_fast]; kernel_rfl) (by decide +kernel) (by decide +kernel) (by decide +kernel)
    (by first | exact .inl (by decide +kernel) | exact .inr (by decide +kernel)) (by rw [isSubtype_type]; kernel_rfl)
theorem entry_setit : entryFor table "set_iterator.__next__" = some Builtin.«set_iterator.__next__» := entryFor_of_tree (by kernel_rfl)
theorem args_setit (a : Value) : argsOk "set_iterator.__next__" ⟨[a], []⟩ := by
  unfold argsOk; rw [signature?_of (id := "set_iterator.__next__") (n := ['_', '_', 't', 'x', 'e', 'n', '_', '_']) (o := ['r', 'o', 't', 'a', 'r', 'e', 't', 'i', '_', 't', 'e', 's']) (by kernel_rfl) own_setit]; kernel_rfl
def SIt (h : Heap) (it : Addr) (first : Value) (i : Nat) (a : Addr) (n ep : Nat) : Prop :=
  ∃ o, h.get? it = some o ∧ o.cls = .type "set_iterator" ∧ o.data = .fields #[first, .int i 0, .ref a, .int n 0, .int ep 0]
theorem SIt.typeIs {s : Shared} {it a : Addr} {first : Value} {i n ep : Nat} (x : SIt s.heap it first i a n ep) : s.TypeIs (.ref it) "set_iterator" := let ⟨o, ho, hc, _⟩ := x; ⟨o, ho, hc⟩
def SAt (h : Heap) (a : Addr) (es : Array (Int × Value)) (ep : Nat) (t : SetTable) : Prop := ∃ o, h.get? a = some o ∧ o.data = .set es ep t
section
variable {prog : Program} {w : World} {A : Around} {E : Value → Shared → Prop} {s : Shared}
theorem next_some {it a : Addr} {slot i ep nx : Nat} {es : Array (Int × Value)} {t : SetTable} {x : Value} {Q : Option Value → Shared → Prop} (hit : SIt s.heap it (.int slot 0) i a es.size ep)
    (hs : SAt s.heap a es ep t) (hf : t.fits es.size = true)
    (hn : ∀ (A' : Around) (E' : Value → Shared → Prop) (Q' : Option (Value × Nat) → Shared → Prop), Q' (some (x, nx)) s → wpAny (model prog w) A' (setNext a slot i ep) Q' E' s)
    (hQ : ∀ h', SIt h' it (.int nx 0) (i + 1) a es.size ep → Heap.SameBut it s.heap h' → Q (some x) { s with heap := h' }) :
    wpAny (model prog w) A (pyNext (.ref it)) Q E s := by
  obtain ⟨o, ho, hc, hd⟩ := id hit
  obtain ⟨oa, hoa, hda⟩ := id hs
  unfold pyNext
  refine wpAny_bind (wpAny_attempt (wpAny_callSpecial?_slot (name := Str.ofString "__next__") hit.typeIs slot_setit (wpAny_call_entry slot_setit hit.typeIs entry_setit ?_ (args_setit _))))
  unfold Builtin.«set_iterator.__next__»
  refine wpAny_bind (wpAny_pure ?_)
  refine wpAny_bind (wpAny_fieldsOf ho hd ?_)
  try dsimp only
  refine wpAny_bind (wpAny_setEntries_of hoa hda hf ?_)
  rw [if_neg (by simp)]
  try dsimp only
  simp only [Int.toNat_natCast]
  refine wpAny_bind (hn _ _ _ ?_)
  try dsimp only
  refine wpAny_bind (wpAny_setField ho hd (by simp) ?_)
  have hd1 : (Obj.mapFields (fun xs => xs.setIfInBounds 0 (rawInt (nx : Int))) o).data = .fields #[.int nx 0, .int i 0, .ref a, .int es.size 0, .int ep 0] := by rw [Obj.data_mapFields hd]; simp [rawInt]
  have ho1 := Heap.get?_update_self (Obj.mapFields (fun xs => xs.setIfInBounds 0 (rawInt (nx : Int)))) ho (Obj.isFreed_of_fields (Obj.data_mapFields hd _))
  refine wpAny_bind (wpAny_setField ho1 hd1 (by simp) (wpAny_pure ⟨x, rfl, wpAny_pure (hQ _ ?_ ((Heap.SameBut.update ..).trans (Heap.SameBut.update ..)))⟩))
  exact ⟨_, Heap.get?_update_self _ ho1 (Obj.isFreed_of_fields (Obj.data_mapFields hd1 _)), (Obj.cls_mapFields ..).trans ((Obj.cls_mapFields ..).trans hc), by rw [Obj.data_mapFields hd1]; simp [rawInt]⟩
theorem next_none {it a : Addr} {slot i ep : Nat} {es : Array (Int × Value)} {t : SetTable} {Q : Option Value → Shared → Prop} (hh : A.handled = none) (hit : SIt s.heap it (.int slot 0) i a es.size ep)
    (hs : SAt s.heap a es ep t) (hf : t.fits es.size = true)
    (hn : ∀ (A' : Around) (E' : Value → Shared → Prop) (Q' : Option (Value × Nat) → Shared → Prop), Q' none s → wpAny (model prog w) A' (setNext a slot i ep) Q' E' s)
    (hQ : ∀ h', Heap.ExtBut it s.heap h' → Q none { s with heap := h' }) :
    wpAny (model prog w) A (pyNext (.ref it)) Q E s := by
  obtain ⟨o, ho, hc, hd⟩ := id hit
  obtain ⟨oa, hoa, hda⟩ := id hs
  unfold pyNext
  refine wpAny_bind (wpAny_attempt (wpAny_callSpecial?_slot (name := Str.ofString "__next__") hit.typeIs slot_setit (wpAny_call_entry slot_setit hit.typeIs entry_setit ?_ (args_setit _))))
  unfold Builtin.«set_iterator.__next__»
  refine wpAny_bind (wpAny_pure ?_)
  refine wpAny_bind (wpAny_fieldsOf ho hd ?_)
  try dsimp only
  refine wpAny_bind (wpAny_setEntries_of hoa hda hf ?_)
  rw [if_neg (by simp)]
  try dsimp only
  simp only [Int.toNat_natCast]
  refine wpAny_bind (hn _ _ _ ?_)
  try dsimp only
  refine wpAny_bind (wpAny_setField ho hd (by simp) ?_)
  show wpAny _ _ (newExc (.type "StopIteration") [] >>= _) _ _ _
  refine wpAny_bind ?_
  simp only [newExc, newTuple]
  refine wpAny_bind (wpAny_newObj_type ?_ (by size_fits))
  refine wpAny_bind (m := firstArgMember _ _) (wpAny_of_eq (a := Value.none) (by first | rfl | (simp only [firstArgMember]; rfl)) ?_)
  refine wpAny_newObj_type ?_ (by size_fits)
  simp only [raiseNew]
  refine wpAny_bind (wpAny_handled ?_)
  rw [show A.in1.handled = none from hh]
  refine wpAny_bind (wpAny_pure (wpAny_throw ?_))
  refine wpAny_bind (wpAny_isInstance (T := "StopIteration") (b := true) ⟨_, Heap.get?_push_size _ rfl, rfl⟩ isSubtype_stop ?_)
  exact wpAny_pure (hQ _ (((Heap.SameBut.update ..).extBut.push _).push _))
end
end St1

set_option Elab.async false
set_option linter.all false
set_option maxRecDepth 100000
set_option maxHeartbeats 4000000
namespace St1
open PySem PyProof.Rows
theorem erase_perm {α : Type} : ∀ {xs : List α} {i : Nat} (h : i < xs.length), (xs[i] :: xs.eraseIdx i).Perm xs
  | x :: xs, 0, _ => List.Perm.refl _
  | x :: xs, i + 1, h => by
    have ih := erase_perm (xs := xs) (i := i) (by rw [List.length_cons] at h; omega)
    exact (List.Perm.swap x _ _).trans (ih.cons x)
theorem below_zero {xs : Array Nat} (hr : Rising xs) : SetTable.below xs 0 = 0 := by
  obtain ⟨h0, h1, _⟩ := below_ok hr 0
  by_cases z : 0 < SetTable.below xs 0
  · have := h1 0 (by omega) z
    omega
  · omega
theorem below_next {xs : Array Nat} (hr : Rising xs) {i : Nat} (hi : i < xs.size) : SetTable.below xs (xs[i] + 1) = i + 1 := by
  obtain ⟨h0, h1, h2⟩ := below_ok hr (xs[i] + 1)
  rcases Nat.lt_trichotomy (SetTable.below xs (xs[i] + 1)) (i + 1) with z | z | z
  · have := h2 i hi (by omega)
    omega
  · exact z
  · have a := h1 (i + 1) (by omega) (by omega)
    have b := hr i (i + 1) hi (by omega) (by omega)
    omega
def slotAt (t : SetTable) : Nat → Nat
  | 0 => 0
  | i + 1 => t.place.getD i 0 + 1
theorem below_at {t : SetTable} (hr : Rising t.place) {i : Nat} (hi : i ≤ t.place.size) : SetTable.below t.place (slotAt t i) = i := by
  cases i with
  | zero => exact below_zero hr
  | succ i =>
    have h : i < t.place.size := by omega
    have e : slotAt t (i + 1) = t.place[i] + 1 := by
      unfold slotAt
      simp [Array.getD, h]
    rw [e]
    exact below_next hr h
section
variable {prog : Program} {w : World} {A : Around} {E : Value → Shared → Prop} {s : Shared}
theorem choose_any {src : Source} {n : Nat} {Q : Nat → Shared → Prop} (h : n ≠ 0) (q : ∀ (v : Nat) (d' : Drawn), v < n → Q v { s with drawn := d' }) : wpAny (model prog w) A (choose src n) Q E s := fun Γ p hΓ => by
  unfold choose
  rw [Sem.wp_choose]
  exact ⟨h, q _ _ (Nat.mod_lt _ (Nat.pos_of_ne_zero h))⟩
theorem drawOrder_any {α : Type} {Q : List α → Shared → Prop} : ∀ (n : Nat) (xs : List α) (s : Shared), xs.length = n → (∀ (ys : List α) (d' : Drawn), ys.Perm xs → Q ys { s with drawn := d' }) → wpAny (model prog w) A (drawOrder n xs) Q E s
  | 0, xs, s, hl, q => by
    have e : xs = [] := List.length_eq_zero_iff.mp hl
    subst e
    unfold drawOrder
    have := q [] s.drawn (List.Perm.refl _)
    exact wpAny_pure (by cases s; exact this)
  | n + 1, [], s, hl, q => by cases hl
  | n + 1, x :: xs, s, hl, q => by
    unfold drawOrder
    refine wpAny_bind (choose_any (by rw [hl]; omega) fun v d' hv => ?_)
    rw [List.getElem?_eq_getElem hv]
    dsimp only
    refine wpAny_bind (drawOrder_any n ((x :: xs).eraseIdx v) _ (by rw [List.length_eraseIdx_of_lt hv, hl]; rfl) fun ys d'' hp => wpAny_pure (q _ _ ?_))
    exact (hp.cons _).trans (erase_perm hv)
theorem setNext_place {a : Addr} {es : Array (Int × Value)} {ep : Nat} {t : SetTable} (hs : SAt s.heap a es ep t) (hf : t.fits es.size = true) (hb : byT w = false) (hl : t.led = true) (hdr : (!t.plain && decide (es.size > 1)) = false) (hr : Rising t.place) {i : Nat} (hi : i ≤ es.size)
    {Q : Option (Value × Nat) → Shared → Prop} (q : Q (es[i]?.map fun e => (e.2, slotAt t (i + 1))) s) : wpAny (model prog w) A (setNext a (slotAt t i) i ep) Q E s := by
  obtain ⟨oa, hoa, hda⟩ := id hs
  have hps : t.place.size = es.size := by
    unfold SetTable.fits at hf
    have := (Bool.and_eq_true_iff.mp hf).1
    simpa using this
  unfold setNext setsByText
  refine wpAny_bind (wpAny_setState_of hoa hda hf ?_)
  dsimp only
  refine wpAny_bind (wpAny_bind (wpAny_askSetting (wpAny_pure ?_)))
  rw [if_neg (by rw [show (model prog w).w.params.followText "set-order" = false from hb]; decide)]
  rw [if_neg (by
    show ¬ (!t.plain && decide (es.size > 1)) = true
    rw [hdr]; decide)]
  refine wpAny_bind (m := _) (wpAny_of_eq (a := ()) (by
    show (if (!t.led && !es.isEmpty) = true then unsupported "set:maker-not-led" else pure ()) = pure ()
    rw [hl]; rfl) ?_)
  rw [below_at hr (by omega)]
  by_cases z : i < es.size
  · have e1 : es[i]? = some es[i] := Array.getElem?_eq_getElem z
    have e2 : t.place[i]? = some (t.place[i]'(by omega)) := Array.getElem?_eq_getElem (by omega)
    rw [e1, e2]
    rw [e1] at q
    have e3 : slotAt t (i + 1) = t.place[i]'(by omega) + 1 := by
      unfold slotAt
      simp [Array.getD, show i < t.place.size by omega]
    rw [e3] at q
    exact wpAny_pure q
  · have e1 : es[i]? = none := Array.getElem?_eq_none (by omega)
    rw [e1] at q ⊢
    exact wpAny_pure q
theorem setNext_text {a : Addr} {es : Array (Int × Value)} {ep : Nat} {t : SetTable} (hs : SAt s.heap a es ep t) (hf : t.fits es.size = true) (hb : byT w = true) {slot i : Nat}
    {Q : Option (Value × Nat) → Shared → Prop} (q : Q ((pickOrder (w.params.setOrder a ep) es)[i]?.map fun e => (e.2, slot)) s) : wpAny (model prog w) A (setNext a slot i ep) Q E s := by
  obtain ⟨oa, hoa, hda⟩ := id hs
  unfold setNext setsByText
  refine wpAny_bind (wpAny_setState_of hoa hda hf ?_)
  dsimp only
  refine wpAny_bind (wpAny_bind (wpAny_askSetting (wpAny_pure ?_)))
  rw [if_pos (show (model prog w).w.params.followText "set-order" = true from hb)]
  rw [if_neg (by simp)]
  unfold setWalk setsByText
  refine wpAny_bind (wpAny_bind (wpAny_setState_of hoa hda hf ?_))
  dsimp only
  refine wpAny_bind (wpAny_bind (wpAny_askSetting (wpAny_pure ?_)))
  rw [if_pos (show (model prog w).w.params.followText "set-order" = true from hb)]
  exact wpAny_bind (wpAny_askSetting (wpAny_pure (wpAny_pure q)))
end
end St1

set_option Elab.async false
set_option linter.all false
set_option maxRecDepth 100000
set_option maxHeartbeats 4000000
namespace St1
open PySem PyProof.Rows
theorem entry_set_iter : entryFor table "set.__iter__" = some Builtin.«frozenset.__iter__» :=
  entryFor_alias (id' := "frozenset.__iter__") (by kernel_rfl) rfl (by decide +kernel) (by kernel_rfl)
section
variable {prog : Program} {w : World} {A : Around} {E : Value → Shared → Prop} {s : Shared}
theorem iter_plain {a : Addr} {es : Array (Int × Value)} {ep : Nat} {t : SetTable} {Q : Value → Shared → Prop} (hT : s.TypeIs (.ref a) "set") (hs : SAt s.heap a es ep t) (hf : t.fits es.size = true)
    (hnd : (!byT w && (!t.plain && decide (es.size > 1))) = false)
    (q : Q (.ref s.heap.objs.size) { s with heap := s.heap.push { cls := .type "set_iterator", data := .fields #[.int 0 0, .int 0 0, .ref a, .int es.size 0, .int ep 0] } }) :
    wpAny (model prog w) A (pyIter (.ref a)) Q E s := by
  obtain ⟨oa, hoa, hda⟩ := id hs
  refine wpAny_pyIter_slot hT F.slot_set_iter (wpAny_call_entry F.slot_set_iter hT entry_set_iter ?_ (F.args_set_iter_1 _))
  unfold Builtin.«frozenset.__iter__»
  refine wpAny_bind (m := Builtin.Frozenset.slot0 "__iter__" ⟨[.ref a], []⟩) (wpAny_bind (wpAny_pure (wpAny_pure ?_)))
  unfold Builtin.Frozenset.sizeOf
  refine wpAny_bind (wpAny_bind (wpAny_setEntries_of hoa hda hf (wpAny_pure ?_)))
  unfold setDrawn setsByText
  refine wpAny_bind (wpAny_bind (wpAny_setState_of hoa hda hf ?_))
  dsimp only
  refine wpAny_bind (wpAny_bind (wpAny_askSetting (wpAny_pure (wpAny_pure ?_))))
  rw [if_neg (by
    show ¬ (!byT w && (!t.plain && decide (es.size > 1))) = true
    rw [hnd]; decide)]
  refine wpAny_bind (wpAny_pure ?_)
  unfold setEpoch
  refine wpAny_bind (wpAny_bind (wpAny_setState_of hoa hda hf (wpAny_pure ?_)))
  exact wpAny_bind (wpAny_newObj_type (wpAny_pure ⟨_, rfl, "set_iterator", _, ⟨_, Heap.get?_push_size _ rfl, rfl⟩, slot_setit.lookup, q⟩))
theorem iter_drawn {a : Addr} {es : Array (Int × Value)} {ep : Nat} {t : SetTable} {Q : Value → Shared → Prop} (hT : s.TypeIs (.ref a) "set") (hs : SAt s.heap a es ep t) (hf : t.fits es.size = true)
    (hd : (!byT w && (!t.plain && decide (es.size > 1))) = true) (hsz : es.size ≤ 1000)
    (q : ∀ (ys : List Nat) (d' : Drawn), ys.Perm (List.range es.size) → Q (.ref (s.heap.objs.size + 1)) { s with drawn := d', heap := (s.heap.push (seqObj "tuple" (ys.map fun (i : Nat) => Value.int i 0).toArray 0)).push { cls := .type "set_iterator", data := .fields #[.ref s.heap.objs.size, .int 0 0, .ref a, .int es.size 0, .int ep 0] } }) :
    wpAny (model prog w) A (pyIter (.ref a)) Q E s := by
  obtain ⟨oa, hoa, hda⟩ := id hs
  refine wpAny_pyIter_slot hT F.slot_set_iter (wpAny_call_entry F.slot_set_iter hT entry_set_iter ?_ (F.args_set_iter_1 _))
  unfold Builtin.«frozenset.__iter__»
  refine wpAny_bind (m := Builtin.Frozenset.slot0 "__iter__" ⟨[.ref a], []⟩) (wpAny_bind (wpAny_pure (wpAny_pure ?_)))
  unfold Builtin.Frozenset.sizeOf
  refine wpAny_bind (wpAny_bind (wpAny_setEntries_of hoa hda hf (wpAny_pure ?_)))
  unfold setDrawn setsByText
  refine wpAny_bind (wpAny_bind (wpAny_setState_of hoa hda hf ?_))
  dsimp only
  refine wpAny_bind (wpAny_bind (wpAny_askSetting (wpAny_pure (wpAny_pure ?_))))
  rw [if_pos (by
    show (!byT w && (!t.plain && decide (es.size > 1))) = true
    exact hd)]
  refine wpAny_bind (drawOrder_any _ _ _ List.length_range fun ys d' hp => ?_)
  have hyl : ys.length = es.size := by rw [hp.length_eq, List.length_range]
  refine wpAny_bind (wpAny_newTuple ?_ (by rw [List.length_map, hyl, sizeLine_eq]; omega))
  have hoa' : (s.heap.push (seqObj "tuple" (ys.map fun (i : Nat) => Value.int i 0).toArray 0)).get? a = some oa := Heap.get?_push_of_some _ hoa
  unfold setEpoch
  refine wpAny_bind (wpAny_bind (wpAny_setState_of (s := { s with drawn := d', heap := s.heap.push (seqObj "tuple" (ys.map fun (i : Nat) => Value.int i 0).toArray 0) }) hoa' hda hf (wpAny_pure ?_)))
  refine wpAny_bind (wpAny_newObj_type (wpAny_pure ⟨_, rfl, "set_iterator", _, ⟨_, Heap.get?_push_size _ rfl, rfl⟩, slot_setit.lookup, ?_⟩))
  have := q ys d' hp
  simpa [rawInt, size_push'] using this
end
end St1

set_option Elab.async false
set_option linter.all false
set_option maxRecDepth 100000
set_option maxHeartbeats 4000000
namespace St1
open PySem PyProof.Rows
theorem slot_setit_iter : Slot "set_iterator" "__iter__" "set_iterator.__iter__" :=
  .of (owner := "set_iterator") (n := "__iter__") (by rw [typeLookup_type, builtinLookup_eq_fast]; kernel_rfl) (by decide +kernel) (by decide +kernel) (by decide +kernel)
    (by first | exact .inl (by decide +kernel) | exact .inr (by decide +kernel)) (by rw [isSubtype_type]; kernel_rfl)
theorem entry_setit_iter : entryFor table "set_iterator.__iter__" = some Builtin.«dict_keyiterator.__iter__» :=
  entryFor_alias (id' := "dict_keyiterator.__iter__") (by kernel_rfl) rfl (by decide +kernel) (by kernel_rfl)
theorem args_setit_iter (a : Value) : argsOk "set_iterator.__iter__" ⟨[a], []⟩ := by
  unfold argsOk; rw [signature?_of (id := "set_iterator.__iter__") (n := ['_', '_', 'r', 'e', 't', 'i', '_', '_']) (o := ['r', 'o', 't', 'a', 'r', 'e', 't', 'i', '_', 't', 'e', 's']) (by kernel_rfl) own_setit]; kernel_rfl
section
variable {prog : Program} {w : World} {A : Around} {E : Value → Shared → Prop} {s : Shared}
theorem self_it {it a : Addr} {first : Value} {i n ep : Nat} {Q : Value → Shared → Prop} (hit : SIt s.heap it first i a n ep) (h : Q (.ref it) s) : wpAny (model prog w) A (pyIter (.ref it)) Q E s := by
  refine wpAny_pyIter_slot hit.typeIs slot_setit_iter (wpAny_call_entry slot_setit_iter hit.typeIs entry_setit_iter ?_ (args_setit_iter _))
  exact wpAny_pure ⟨_, rfl, "set_iterator", _, hit.typeIs, slot_setit.lookup, h⟩
theorem drawn_some {it a tp : Addr} {i ep pl : Nat} {es : Array (Int × Value)} {t : SetTable} {ps : Array Value} {pe : Nat} {x : Int × Value} {Q : Option Value → Shared → Prop} (hit : SIt s.heap it (.ref tp) i a es.size ep)
    (hs : SAt s.heap a es ep t) (hf : t.fits es.size = true) (ht : s.heap.get? tp = some (seqObj "tuple" ps pe)) (hp : ps[i]? = some (.int pl 0)) (hx : es[pl]? = some x)
    (hQ : ∀ h', SIt h' it (.ref tp) (i + 1) a es.size ep → Heap.SameBut it s.heap h' → Q (some x.2) { s with heap := h' }) :
    wpAny (model prog w) A (pyNext (.ref it)) Q E s := by
  obtain ⟨o, ho, hc, hd⟩ := id hit
  obtain ⟨oa, hoa, hda⟩ := id hs
  unfold pyNext
  refine wpAny_bind (wpAny_attempt (wpAny_callSpecial?_slot (name := Str.ofString "__next__") hit.typeIs slot_setit (wpAny_call_entry slot_setit hit.typeIs entry_setit ?_ (args_setit _))))
  unfold Builtin.«set_iterator.__next__»
  refine wpAny_bind (wpAny_pure ?_)
  refine wpAny_bind (wpAny_fieldsOf ho hd ?_)
  try dsimp only
  refine wpAny_bind (wpAny_setEntries_of hoa hda hf ?_)
  rw [if_neg (by simp)]
  try dsimp only
  refine wpAny_bind (wpAny_seqItems ht rfl ?_)
  try dsimp only
  simp only [Int.toNat_natCast, hp]
  unfold setNextDrawn
  refine wpAny_bind (wpAny_bind (wpAny_setState_of hoa hda hf ?_))
  try dsimp only
  rw [if_neg (by simp)]
  simp only [hx]
  refine wpAny_pure ?_
  refine wpAny_bind (wpAny_setField ho hd (by simp) (wpAny_pure ⟨x.2, rfl, wpAny_pure (hQ _ ?_ (Heap.SameBut.update ..))⟩))
  exact ⟨_, Heap.get?_update_self _ ho (Obj.isFreed_of_fields (Obj.data_mapFields hd _)), (Obj.cls_mapFields ..).trans hc, by rw [Obj.data_mapFields hd]; simp [rawInt]⟩
theorem drawn_none {it a tp : Addr} {i ep : Nat} {es : Array (Int × Value)} {t : SetTable} {ps : Array Value} {pe : Nat} {Q : Option Value → Shared → Prop} (hh : A.handled = none) (hit : SIt s.heap it (.ref tp) i a es.size ep)
    (hs : SAt s.heap a es ep t) (hf : t.fits es.size = true) (ht : s.heap.get? tp = some (seqObj "tuple" ps pe)) (hp : ps[i]? = none)
    (hQ : ∀ h', Heap.ExtBut it s.heap h' → Q none { s with heap := h' }) :
    wpAny (model prog w) A (pyNext (.ref it)) Q E s := by
  obtain ⟨o, ho, hc, hd⟩ := id hit
  obtain ⟨oa, hoa, hda⟩ := id hs
  unfold pyNext
  refine wpAny_bind (wpAny_attempt (wpAny_callSpecial?_slot (name := Str.ofString "__next__") hit.typeIs slot_setit (wpAny_call_entry slot_setit hit.typeIs entry_setit ?_ (args_setit _))))
  unfold Builtin.«set_iterator.__next__»
  refine wpAny_bind (wpAny_pure ?_)
  refine wpAny_bind (wpAny_fieldsOf ho hd ?_)
  try dsimp only
  refine wpAny_bind (wpAny_setEntries_of hoa hda hf ?_)
  rw [if_neg (by simp)]
  try dsimp only
  refine wpAny_bind (wpAny_seqItems ht rfl ?_)
  try dsimp only
  simp only [Int.toNat_natCast, hp]
  refine wpAny_bind (wpAny_setField ho hd (by simp) ?_)
  have hd1 := Obj.data_mapFields hd (fun xs => xs.setIfInBounds 0 (rawInt 0))
  have ho1 := Heap.get?_update_self (Obj.mapFields (fun xs => xs.setIfInBounds 0 (rawInt 0))) ho (Obj.isFreed_of_fields hd1)
  refine wpAny_bind (wpAny_setField ho1 hd1 (by simp) ?_)
  show wpAny _ _ (newExc (.type "StopIteration") [] >>= _) _ _ _
  refine wpAny_bind ?_
  simp only [newExc, newTuple]
  refine wpAny_bind (wpAny_newObj_type ?_ (by size_fits))
  refine wpAny_bind (m := firstArgMember _ _) (wpAny_of_eq (a := Value.none) (by first | rfl | (simp only [firstArgMember]; rfl)) ?_)
  refine wpAny_newObj_type ?_ (by size_fits)
  simp only [raiseNew]
  refine wpAny_bind (wpAny_handled ?_)
  rw [show A.in1.handled = none from hh]
  refine wpAny_bind (wpAny_pure (wpAny_throw ?_))
  refine wpAny_bind (wpAny_isInstance (T := "StopIteration") (b := true) ⟨_, Heap.get?_push_size _ rfl, rfl⟩ isSubtype_stop ?_)
  exact wpAny_pure (hQ _ ((((Heap.SameBut.update ..).trans (Heap.SameBut.update ..)).extBut.push _).push _))
end
end St1

set_option Elab.async false
set_option linter.all false
set_option maxRecDepth 100000
set_option maxHeartbeats 4000000
namespace St1
open PySem PyProof.Rows
abbrev GE : Array GenState → Array GenState → Prop := fun a b => b = a
def Prov (prog : Program) (w : World) (A : Around) (a : Addr) (n : Nat) (Good : List Value → Prop) (s1 : Shared) : Prop :=
  ∀ (Q' : Value → Shared → Prop) (E' : Value → Shared → Prop),
    (∀ (s2 : Shared) (I : Addr) (fp wr : List Addr) (P : Nat → Value → Prop) (St : Nat → Shared → Prop), WalksS prog w A I fp wr GE n P St → St 0 s2 → (∀ b o, s1.heap.get? b = some o → s2.heap.get? b = some o) →
      (∀ b ∈ fp, b = a ∨ s1.heap.objs.size ≤ b) → (∀ b ∈ wr, s1.heap.objs.size ≤ b) → (∀ acc, ItemsOf P acc n → Good acc.toList) → s2.gens = s1.gens → s2.os = s1.os → Q' (.ref I) s2) → wpAny (model prog w) A (pyIter (.ref a)) Q' E' s1
section
variable {prog : Program} {w : World} {A : Around} {E : Value → Shared → Prop} {s : Shared}
theorem collect_by {a : Addr} {n : Nat} {Good : List Value → Prop} {Q : List Value → Shared → Prop} (hT : s.TypeIs (.ref a) "set") (hn : n ≤ sizeLine)
    (prov : ∀ s1 : Shared, s1 = { s with heap := s.heap.push { cls := .type "list", data := .seq ([] : List Value).toArray } } → Prov prog w A.in1 a n Good s1)
    (hQ : ∀ (s' : Shared) (vs : List Value), Good vs → (∀ b o, s.heap.get? b = some o → s'.heap.get? b = some o) → s'.gens = s.gens → s'.os = s.os → s.heap.objs.size ≤ s'.heap.objs.size → Q vs s') :
    wpAny (model prog w) A (collect (.ref a)) Q E s := by
  obtain ⟨oa, hoa, hca⟩ := id hT
  have hlt : a < s.heap.objs.size := Heap.lt_size hoa
  have hSI : s.heap.objs.size ≠ a := Nat.ne_of_gt hlt
  unfold collect
  refine wpAny_bind (wpAny_runValue (codeAny_builtin F.entry_proto_collect ?_))
  rw [Around.under_plainId F.plain_proto_collect _]
  show wpAny _ A.in1 (newList [] >>= fun l => again (.builtin "list.__iadd__" ⟨[l, .ref a], []⟩)) _ _ s
  refine wpAny_bind (wpAny_newObj_type ?_)
  refine wpAny_pure ⟨plainId_quiet F.plain_list_iadd _, codeAny_builtin F.entry_list_iadd ?_⟩
  rw [Around.under_plainId F.plain_list_iadd _]
  have hT1 : Shared.TypeIs { s with heap := s.heap.push { cls := .type "list", data := .seq ([] : List Value).toArray } } (.ref a) "set" := ⟨oa, Heap.get?_push_of_some _ hoa, hca⟩
  have hsz1 : (s.heap.push { cls := .type "list", data := .seq ([] : List Value).toArray }).objs.size = s.heap.objs.size + 1 := Heap.size_push ..
  show wpAny _ A.in1 (Builtin.List.listExtendWith (.ref s.heap.objs.size) (.ref a) (.ref s.heap.objs.size)) _ _ _
  unfold Builtin.List.listExtendWith
  refine wpAny_bind (wpAny_typeOf hT1 ?_)
  have h1 : Builtin.List.listSameRef (.ref s.heap.objs.size) (.ref a) = false := by simp [Builtin.List.listSameRef, hSI]
  rw [if_neg (by rw [h1]; decide)]
  refine wpAny_bind (prov _ rfl _ _ fun s2 I fp wr P St W hst ext hfp hwr hgood eg eo => ?_)
  have hT2 : s2.TypeIs (.ref a) "set" := ⟨oa, ext _ _ (Heap.get?_push_of_some _ hoa), hca⟩
  have hSf : s.heap.objs.size ∉ fp := fun hm => by
    rcases hfp _ hm with z | z
    · exact hSI z
    · rw [hsz1] at z; exact Nat.not_succ_le_self _ z
  refine wpAny_bind (wpAny_holding ?_)
  unfold Builtin.List.listLengthHint
  refine wpAny_bind (wpAny_specialOf hT2 F.slot_set_len.lookup ?_)
  (generalize hid : ("set.__len__" : String) = id0; (fail_if_success (clear hid id0)); wp_delta; rw [show splitId id0 = some ("set", "__len__") from by subst hid; decide +kernel]; subst hid)
  refine wpAny_bind (wpAny_isInstance (b := true) hT2 sub_set_self ?_)
  refine wpAny_bind (wpAny_typeOf hT2 ?_)
  refine wpAny_pure ?_
  show wpAny _ A.in1 (rule "list.extend.makes-room" >>= fun _ => Builtin.List.listTouch (.ref s.heap.objs.size) >>= fun _ =>
    again (.builtin "list.extend.loop" ⟨[.ref s.heap.objs.size, .ref I, .ref s.heap.objs.size], []⟩)) _ _ _
  refine wpAny_bind (wpAny_rule ?_)
  have hS₁ : s2.heap.get? s.heap.objs.size = some { cls := .type "list", data := .seq ([] : List Value).toArray } := ext _ _ (Heap.get?_push_size _ rfl)
  refine wpAny_bind ?_
  show wpAny _ A.in1 (updateSeq s.heap.objs.size (·.push .none) >>= fun _ => updateSeq s.heap.objs.size (·.pop)) _ _ _
  refine wpAny_bind (wpAny_updateSeq hS₁ rfl ?_)
  have hS₂ := Heap.get?_update_self (Obj.mapSeq (·.push Value.none)) hS₁ rfl
  refine wpAny_updateSeq hS₂ rfl ?_
  have hS₃ := Heap.get?_update_self (Obj.mapSeq (·.pop)) hS₂ rfl
  have oth : ∀ b o, b ≠ s.heap.objs.size → s2.heap.get? b = some o → ((s2.heap.update s.heap.objs.size (Obj.mapSeq (·.push Value.none))).update s.heap.objs.size (Obj.mapSeq (·.pop))).get? b = some o :=
    fun b o hb e => (Heap.get?_update_other _ _ (Ne.symm hb)).trans ((Heap.get?_update_other _ _ (Ne.symm hb)).trans e)
  refine wpAny_pure ⟨plainId_quiet F.plain_extend_loop _, codeAny_extend_loopS W hn _ hSf _ n 0 _ _ _ rfl (Nat.zero_le _) (W.frame 0 s2 _ s2.toks hst (Nat.le_refl _) fun b hb o e => oth b o (fun h => hSf (h ▸ hb)) e) hS₃ (ItemsOf.nil P) fun s' acc' c' hm hS' hacc => ?_⟩
  show wpAny _ A (load s.heap.objs.size >>= _) _ _ s'
  refine wpAny_bind (wpAny_load hS' (wpAny_pure (hQ s' _ (hgood acc' hacc) (fun b o e => ?_) (hm.gens.trans eg) (hm.os.trans eo) (Nat.le_of_lt (Heap.lt_size hS')))))
  have hb : b < s.heap.objs.size := Heap.lt_size e
  refine hm.heap b o (fun z => ?_) (oth b o (Nat.ne_of_lt hb) (ext _ _ (Heap.get?_push_of_some _ e)))
  rcases List.mem_cons.mp z with y | y
  · exact absurd y (Nat.ne_of_lt hb)
  · have := hwr b y
    rw [hsz1] at this
    exact absurd this (Nat.not_le_of_lt (Nat.lt_succ_of_lt hb))
end
end St1

set_option Elab.async false
set_option linter.all false
set_option maxRecDepth 100000
set_option maxHeartbeats 4000000
namespace St1
open PySem PyProof.Rows
theorem SIt.at {h h' : Heap} {it a : Addr} {first : Value} {i n ep : Nat} (x : SIt h it first i a n ep) (e : ∀ o, h.get? it = some o → h'.get? it = some o) : SIt h' it first i a n ep := let ⟨o, ho, r⟩ := x; ⟨o, e _ ho, r⟩
theorem SAt.at {h h' : Heap} {a : Addr} {es : Array (Int × Value)} {ep : Nat} {t : SetTable} (x : SAt h a es ep t) (e : ∀ o, h.get? a = some o → h'.get? a = some o) : SAt h' a es ep t := let ⟨o, ho, r⟩ := x; ⟨o, e _ ho, r⟩
section
variable {prog : Program} {w : World} {A : Around}
theorem walk_int (hh : A.handled = none) {it a : Addr} (hne : a ≠ it) {es : Array (Int × Value)} {ep : Nat} {t : SetTable} (hf : t.fits es.size = true) (sl : Nat → Nat) (ord : Nat → Value)
    (hitem : ∀ (s : Shared) (i : Nat) (A' : Around) (E' : Value → Shared → Prop) (Q' : Option (Value × Nat) → Shared → Prop), SAt s.heap a es ep t → i < es.size → Q' (some (ord i, sl (i + 1))) s → wpAny (model prog w) A' (setNext a (sl i) i ep) Q' E' s)
    (hend : ∀ (s : Shared) (A' : Around) (E' : Value → Shared → Prop) (Q' : Option (Value × Nat) → Shared → Prop), SAt s.heap a es ep t → Q' none s → wpAny (model prog w) A' (setNext a (sl es.size) es.size ep) Q' E' s) :
    Walks prog w A it [it, a] [it] es.size (fun i v => v = ord i) (fun i h => SIt h it (.int (sl i) 0) i a es.size ep ∧ SAt h a es ep t) where
  sub := fun b hb => by simp at hb; simp [hb]
  frame := fun _ _ _ st hk => ⟨st.1.at fun o e => hk it (by simp) o e, st.2.at fun o e => hk a (by simp) o e⟩
  item := fun i s Q E hi st hQ => next_some st.1 st.2 hf (fun A' E' Q' q => hitem s i A' E' Q' st.2 hi q) fun h' hit' sb => by
    have := hQ (ord i) h' s.toks rfl ⟨hit', st.2.at fun o e => (sb.2 a hne).trans e⟩ fun b o hb e => (sb.2 b (fun z => hb (by simp [z]))).trans e
    exact this
  done := fun s Q E st hQ => next_none hh st.1 st.2 hf (fun A' E' Q' q => hend s A' E' Q' st.2 q) fun h' ext => hQ h' s.toks fun b o hb e => ext b o (fun z => hb (by simp [z])) e
  self := fun i s Q E st q => self_it st.1 q
theorem walk_drawn (hh : A.handled = none) {it a tp : Addr} (hne : a ≠ it) (hnt : tp ≠ it) {es : Array (Int × Value)} {ep pe : Nat} {t : SetTable} (hf : t.fits es.size = true) {ys : List Nat} (hl : ys.length = es.size) (hy : ∀ y ∈ ys, y < es.size) :
    Walks prog w A it [it, a, tp] [it] es.size (fun i v => ∃ (y : Nat) (x : Int × Value), ys[i]? = some y ∧ es[y]? = some x ∧ v = x.2)
      (fun i h => SIt h it (.ref tp) i a es.size ep ∧ SAt h a es ep t ∧ h.get? tp = some (seqObj "tuple" (ys.map fun (i : Nat) => Value.int i 0).toArray pe)) where
  sub := fun b hb => by simp at hb; simp [hb]
  frame := fun _ _ _ st hk => ⟨st.1.at fun o e => hk it (by simp) o e, st.2.1.at fun o e => hk a (by simp) o e, hk tp (by simp) _ st.2.2⟩
  item := fun i s Q E hi st hQ => by
    have hyi : ys[i]? = some (ys[i]'(by omega)) := List.getElem?_eq_getElem (by omega)
    have hb := hy (ys[i]'(by omega)) (List.getElem_mem _)
    have hx : es[ys[i]'(by omega)]? = some (es[ys[i]'(by omega)]'hb) := Array.getElem?_eq_getElem hb
    refine drawn_some (pl := ys[i]'(by omega)) st.1 st.2.1 hf st.2.2 (by simp [hyi]) hx fun h' hit' sb => ?_
    exact hQ _ h' s.toks ⟨_, _, hyi, hx, rfl⟩ ⟨hit', st.2.1.at fun o e => (sb.2 a hne).trans e, (sb.2 tp hnt).trans st.2.2⟩ fun b o hb e => (sb.2 b (fun z => hb (by simp [z]))).trans e
  done := fun s Q E st hQ => drawn_none hh st.1 st.2.1 hf st.2.2 (by simp [hl]) fun h' ext => hQ h' s.toks fun b o hb e => ext b o (fun z => hb (by simp [z])) e
  self := fun i s Q E st q => self_it st.1 q
theorem pick_go {α : Type} (f : Nat → Nat) : ∀ (n k : Nat) (l : List α) (out : Array α), l.length = n → (pickOrder.go f n k l out).toList.Perm (out.toList ++ l)
  | 0, k, l, out, h => by
    rw [List.length_eq_zero_iff.mp h]
    unfold pickOrder.go
    simp
  | n + 1, k, l, out, h => by
    unfold pickOrder.go
    have hv : f k % l.length < l.length := Nat.mod_lt _ (by omega)
    rw [List.getElem?_eq_getElem hv]
    dsimp only
    refine (pick_go f n (k + 1) _ _ (by rw [List.length_eraseIdx_of_lt hv]; omega)).trans ?_
    rw [Array.toList_push, List.append_assoc]
    exact ((erase_perm hv).append_left _)
theorem pick_perm {α : Type} (f : Nat → Nat) (xs : Array α) : (pickOrder f xs).toList.Perm xs.toList := by
  unfold pickOrder
  have := pick_go f xs.size 0 xs.toList #[] (by simp)
  simpa using this
theorem items_eq {ord : Nat → Value} {n : Nat} {acc : Array Value} (h : ItemsOf (fun i v => v = ord i) acc n) : acc.toList = (List.range n).map ord := by
  refine List.ext_getElem (by rw [Array.length_toList, h.1, List.length_map, List.length_range]) fun i h1 h2 => ?_
  rw [List.getElem_map, List.getElem_range, Array.getElem_toList]
  exact h.2 i _ (Array.getElem?_eq_getElem _)
end
section
variable {prog : Program} {w : World} {A : Around}
theorem prov_set (hh : A.handled = none) {s1 : Shared} {a : Addr} {es : Array (Int × Value)} {ep : Nat} {t : SetTable} (hT : s1.TypeIs (.ref a) "set") (hs : SAt s1.heap a es ep t) (hf : t.fits es.size = true) (hsz : es.size ≤ 1000) (ti : TI (!byT w) t) :
    Prov prog w A a es.size (fun vs => vs.Perm (es.toList.map (·.2))) s1 := by
  intro Q' E' q
  have hlt : a < s1.heap.objs.size := by obtain ⟨o, ho, _⟩ := hT; exact Heap.lt_size ho
  have hps : t.place.size = es.size := by
    unfold SetTable.fits at hf
    have := (Bool.and_eq_true_iff.mp hf).1
    simpa using this
  by_cases hd : (!byT w && (!t.plain && decide (es.size > 1))) = true
  · refine iter_drawn hT hs hf hd hsz fun ys d' hp => ?_
    have hyl : ys.length = es.size := by rw [hp.length_eq, List.length_range]
    have hyb : ∀ y ∈ ys, y < es.size := fun y hy => List.mem_range.mp (hp.mem_iff.mp hy)
    have hz : (s1.heap.push (seqObj "tuple" (ys.map fun (i : Nat) => Value.int i 0).toArray 0)).objs.size = s1.heap.objs.size + 1 := size_push' ..
    have ext : ∀ b o, s1.heap.get? b = some o → ((s1.heap.push (seqObj "tuple" (ys.map fun (i : Nat) => Value.int i 0).toArray 0)).push { cls := .type "set_iterator", data := .fields #[.ref s1.heap.objs.size, .int 0 0, .ref a, .int es.size 0, .int ep 0] }).get? b = some o := fun b o e => Heap.get?_push_of_some _ (Heap.get?_push_of_some _ e)
    refine q _ (s1.heap.objs.size + 1) _ _ _ _ ((walk_drawn (prog := prog) (w := w) (A := A) hh (it := s1.heap.objs.size + 1) (a := a) (tp := s1.heap.objs.size) (pe := 0) (Nat.ne_of_lt (Nat.lt_succ_of_lt hlt)) (Nat.ne_of_lt (Nat.lt_succ_self _)) hf hyl hyb).toS)
      ⟨⟨_, by rw [← hz]; exact Heap.get?_push_size _ rfl, rfl, rfl⟩, hs.at fun o e => ext a o e, Heap.get?_push_of_some _ (Heap.get?_push_size _ rfl)⟩ ext ?_ ?_ ?_ rfl rfl
    · intro b hb
      simp only [List.mem_cons, List.not_mem_nil, or_false] at hb
      rcases hb with z | z | z
      · right; rw [z]; exact Nat.le_succ _
      · left; exact z
      · right; rw [z]; exact Nat.le_refl _
    · intro b hb
      rw [List.mem_singleton.mp hb]
      exact Nat.le_succ _
    · intro acc ha
      have e : acc.toList = ys.map fun y => (es.toList.map (·.2)).getD y .none := by
        refine List.ext_getElem (by rw [Array.length_toList, ha.1, List.length_map, hyl]) fun i h1 h2 => ?_
        obtain ⟨y, x, e1, e2, e3⟩ := ha.2 i _ (Array.getElem?_eq_getElem (by simpa using h1))
        rw [Array.getElem_toList, e3, List.getElem_map]
        have e4 : ys[i]'(by simpa using h2) = y := by
          have := List.getElem?_eq_some_iff.mp e1
          exact this.2
        rw [e4, List.getD_eq_getElem?_getD, List.getElem?_map, Array.getElem?_toList, e2]
        rfl
      rw [e]
      refine (hp.map _).trans (List.Perm.of_eq ?_)
      refine List.ext_getElem (by simp) fun i h1 h2 => ?_
      have hi : i < es.size := by simpa using h2
      rw [List.getElem_map, List.getElem_range, List.getD_eq_getElem?_getD, List.getElem?_eq_getElem (by simpa using hi)]
      rfl
  · have hnd : (!byT w && (!t.plain && decide (es.size > 1))) = false := by simpa using hd
    refine iter_plain hT hs hf hnd ?_
    have ext : ∀ b o, s1.heap.get? b = some o → (s1.heap.push { cls := .type "set_iterator", data := .fields #[.int 0 0, .int 0 0, .ref a, .int es.size 0, .int ep 0] }).get? b = some o := fun b o e => Heap.get?_push_of_some _ e
    have fpw : ∀ b ∈ [s1.heap.objs.size, a], b = a ∨ s1.heap.objs.size ≤ b := fun b hb => by
      simp only [List.mem_cons, List.not_mem_nil, or_false] at hb
      rcases hb with z | z
      · right; rw [z]; exact Nat.le_refl _
      · left; exact z
    have wrw : ∀ b ∈ [s1.heap.objs.size], s1.heap.objs.size ≤ b := fun b hb => by rw [List.mem_singleton.mp hb]; exact Nat.le_refl _
    cases hb : byT w with
    | true =>
      have hpl : (pickOrder (w.params.setOrder a ep) es).size = es.size := by
        have := (pick_perm (w.params.setOrder a ep) es).length_eq
        simpa using this
      refine q _ s1.heap.objs.size _ _ _ _ ((walk_int (prog := prog) (w := w) (A := A) hh (it := s1.heap.objs.size) (a := a) (es := es) (ep := ep) (t := t) (Nat.ne_of_lt hlt) hf (fun _ => 0) (fun i => ((pickOrder (w.params.setOrder a ep) es)[i]?.map (·.2)).getD .none)
        (fun s i A' E' Q2 hs2 hi q2 => setNext_text hs2 hf hb (by
          rw [Array.getElem?_eq_getElem (by rw [hpl]; exact hi)] at q2 ⊢
          exact q2))
        (fun s A' E' Q2 hs2 q2 => setNext_text hs2 hf hb (by
          rw [Array.getElem?_eq_none (by rw [hpl]; exact Nat.le_refl _)]
          exact q2))).toS) ⟨⟨_, Heap.get?_push_size _ rfl, rfl, rfl⟩, hs.at fun o e => ext a o e⟩ ext fpw wrw ?_ rfl rfl
      intro acc ha
      rw [items_eq ha]
      refine List.Perm.trans (List.Perm.of_eq ?_) ((pick_perm (w.params.setOrder a ep) es).map (·.2))
      refine List.ext_getElem (by simp [hpl]) fun i h1 h2 => ?_
      have hi : i < (pickOrder (w.params.setOrder a ep) es).size := by simpa using h2
      rw [List.getElem_map, List.getElem_range, List.getElem_map, Array.getElem_toList, Array.getElem?_eq_getElem hi]
      rfl
    | false =>
      have hled : t.led = true := by rw [ti.led, hb]; rfl
      have hdr : (!t.plain && decide (es.size > 1)) = false := by rw [hb] at hnd; simpa using hnd
      have hr : Rising t.place := by
        cases hpn : t.plain with
        | true => exact ti.up hpn
        | false =>
          rw [hpn] at hdr
          have : es.size ≤ 1 := by simpa using hdr
          intro i j hi hj hij
          omega
      refine q _ s1.heap.objs.size _ _ _ _ ((walk_int (prog := prog) (w := w) (A := A) hh (it := s1.heap.objs.size) (a := a) (es := es) (ep := ep) (t := t) (Nat.ne_of_lt hlt) hf (slotAt t) (fun i => (es[i]?.map (·.2)).getD .none)
        (fun s i A' E' Q2 hs2 hi q2 => setNext_place hs2 hf hb hled hdr hr (Nat.le_of_lt hi) (by
          rw [Array.getElem?_eq_getElem hi] at q2 ⊢
          exact q2))
        (fun s A' E' Q2 hs2 q2 => setNext_place hs2 hf hb hled hdr hr (Nat.le_refl _) (by
          rw [Array.getElem?_eq_none (Nat.le_refl _)]
          exact q2))).toS) ⟨⟨_, Heap.get?_push_size _ rfl, rfl, rfl⟩, hs.at fun o e => ext a o e⟩ ext fpw wrw ?_ rfl rfl
      intro acc ha
      rw [items_eq ha]
      refine List.Perm.of_eq (List.ext_getElem (by simp) fun i h1 h2 => ?_)
      have hi : i < es.size := by simpa using h2
      rw [List.getElem_map, List.getElem_range, List.getElem_map, Array.getElem_toList, Array.getElem?_eq_getElem hi]
      rfl
end
end St1

set_option Elab.async false
set_option linter.all false
set_option maxRecDepth 100000
set_option maxHeartbeats 4000000
namespace St1
open PySem PyProof.Rows
theorem met_nodup (val : Nat → Int) : ∀ i : Nat, (firstMet val i).Nodup
  | 0 => List.nodup_nil
  | i + 1 => by
    rw [firstMet_succ]
    unfold step_dedup
    split
    · exact met_nodup val i
    · next z =>
      rw [List.nodup_append]
      refine ⟨met_nodup val i, by simp, fun a ha b hb e => z ?_⟩
      rw [List.any_eq_true]
      refine ⟨a, ha, ?_⟩
      rw [e, List.mem_singleton.mp hb]
      simp
theorem nodup_perm {α : Type} [DecidableEq α] : ∀ {l m : List α}, l.Nodup → (∀ x ∈ l, x ∈ m) → m.length ≤ l.length → l.Perm m
  | [], m, _, _, h => by
    rw [List.length_eq_zero_iff.mp (by simpa using h : m.length = 0)]
  | x :: l, m, h, hm, hl => by
    have h' := List.nodup_cons.mp h
    have hx := hm x (List.mem_cons_self ..)
    have ih := nodup_perm (l := l) (m := m.erase x) h'.2 (fun y hy => (List.mem_erase_of_ne (fun e => h'.1 (by rw [← e]; exact hy))).mpr (hm y (List.mem_cons_of_mem _ hy))) (by
      rw [List.length_erase_of_mem hx]
      rw [List.length_cons] at hl
      omega)
    exact (ih.cons x).trans (List.perm_cons_erase hx).symm
theorem ints_of : ∀ {vs : List Value}, (∀ v ∈ vs, ∃ k t, v = Value.int k t) → ∃ zs : List Int, IntsAre vs zs ∧ ∀ k, k ∈ zs ↔ ∃ t, Value.int k t ∈ vs
  | [], _ => ⟨[], .nil, fun k => by simp⟩
  | v :: vs, h => by
    obtain ⟨k, t, rfl⟩ := h v (List.mem_cons_self ..)
    obtain ⟨zs, h1, h2⟩ := ints_of (vs := vs) fun u hu => h u (List.mem_cons_of_mem _ hu)
    refine ⟨k :: zs, .cons k t h1, fun j => ?_⟩
    rw [List.mem_cons, h2]
    constructor
    · rintro (e | ⟨u, hu⟩)
      · exact ⟨t, by rw [e]; exact List.mem_cons_self ..⟩
      · exact ⟨u, List.mem_cons_of_mem _ hu⟩
    · rintro ⟨u, hu⟩
      rcases List.mem_cons.mp hu with e | e
      · left
        injection e
      · exact .inr ⟨u, e⟩
section
variable {prog : Program} {w : World} {A : Around} {E : Value → Shared → Prop} {s : Shared}
theorem sorted_set {a : Addr} {F : List Int} {Q : Value → Shared → Prop} (hh : A.handled = none) (hF : F.Nodup) (h128 : F.length < 128) (hS : SetT prog w (!byT w) s.heap a (fun k => F.any (· == k)) F.length)
    (q : ∀ (s' : Shared) (l : Addr) (e : Nat) (out : Array Value) (ys : List Int), IntsAre out.toList ys → ys.Perm F → ys.Pairwise (· ≤ ·) → (∀ b o, s.heap.get? b = some o → s'.heap.get? b = some o) → s.heap.objs.size ≤ l → s'.heap.get? l = some (seqObj "list" out e) → s'.gens = s.gens → s'.os = s.os → Q (.ref l) s') :
    wpAny (model prog w) A (call (.builtin "sorted") [.ref a]) Q E s := by
  obtain ⟨o, es, ep, t, ho, hex, hd, hel, hmem, hb, hf, hn, ti⟩ := hS
  have hT : s.TypeIs (.ref a) "set" := ⟨o, ho, hex.1⟩
  refine Calls.call_function_entry kind_sorted plain_sorted entry_sorted (args_sorted1 _) ?_
  unfold Builtin.«sorted»
  refine wpAny_bind (m := checkCount "sorted" 1 1 _) (wpAny_pure (wpAny_bind (collect_by (n := es.size) (Good := fun vs => vs.Perm (es.toList.map (·.2))) hT (by rw [hn, sizeLine_eq]; omega) (fun s1 e1 => ?_) fun s2 vs hg ext eg eo hle => ?_)))
  · subst e1
    exact prov_set (by simp [hh]) ⟨o, Heap.get?_push_of_some _ ho, hex.1⟩ ⟨o, Heap.get?_push_of_some _ ho, hd⟩ hf (by omega) ti
  have hv : ∀ v ∈ vs, ∃ k t, v = Value.int k t := fun v hv => by
    obtain ⟨e, he, rfl⟩ := List.mem_map.mp (hg.mem_iff.mp hv)
    obtain ⟨⟨k, hk, _⟩, _⟩ := hel e he
    obtain ⟨t, e2⟩ := Value.isInt_shape hk
    exact ⟨k, t, e2⟩
  obtain ⟨zs, hz, hm⟩ := ints_of hv
  have hvl : vs.length = F.length := by rw [hg.length_eq, List.length_map, Array.length_toList, hn]
  have hzl : zs.length = F.length := by rw [← hvl]; exact (IntsAre.length hz).symm
  have hFz : F.Perm zs := nodup_perm hF (fun k hk => by
    rw [hm]
    have hk' : F.any (· == k) = true := List.any_eq_true.mpr ⟨k, hk, by simp⟩
    obtain ⟨e, he, hk2⟩ := (hmem k).mp hk'
    obtain ⟨t, e2⟩ := Value.isInt_shape hk2
    exact ⟨t, hg.mem_iff.mpr (List.mem_map.mpr ⟨e, he, e2⟩)⟩) (by omega)
  refine wpAny_bind (wpAny_newList ?_ (by rw [hvl, sizeLine_eq]; omega))
  have n2 : (s2.heap.push (seqObj "list" vs.toArray 0)).get? s2.heap.objs.size = some (seqObj "list" vs.toArray 0) := Heap.get?_push_size _ rfl
  refine wpAny_bind (wpAny_holding (wpAny_call_entry slot_list_sort ⟨_, n2, rfl⟩ entry_list_sort (Srt.tree_any n2 hz (by omega) fun out ys a1 a2 a3 => ⟨_, rfl, wpAny_pure ⟨_, rfl, ?_⟩⟩) (args_list_sort _)))
  obtain ⟨e, he⟩ := sortedHeap_at (out := out) n2
  refine q _ _ e out ys a1 (a2.trans hFz.symm) a3 (fun b o' hb' => ?_) hle he eg eo
  have hlt := Nat.lt_of_lt_of_le (Heap.lt_size hb') hle
  rw [sortedHeap_old (Nat.ne_of_lt hlt) (by rw [size_push']; exact Nat.lt_succ_of_lt hlt)]
  exact Heap.get?_push_of_some _ (ext b o' hb')
end
end St1

set_option Elab.async false
set_option linter.all false
set_option maxRecDepth 100000
set_option maxHeartbeats 4000000
namespace L3
open PySem PySem.Spec PyProof.Rows L2
section
variable {X : Cx}
theorem Inv.re {pins : List (Addr × Obj)} {σ : List (Option V)} {H : Hp} {s s' : Shared} (I : Inv X pins σ H s) (h1 : s'.heap = s.heap) (h2 : s'.gens = s.gens) (h3 : s'.os = s.os) : Inv X pins σ H s' :=
  ⟨I.ok, h3.trans I.os, by rw [h2]; exact I.bare, by rw [h1]; exact I.base, by rw [h1]; exact I.loc, by rw [h1]; exact I.cell, I.free, I.freeC, by rw [h1]; exact I.pin, by rw [h1]; exact I.hok, I.len⟩
def tSortedSet (ta : TA) : TE := fun σ H Q => ta σ H fun vs H1 => ∃ (p : Addr) (ns : List Int), vs = [.ref p] ∧ SqL X.K H1 p (ns.map V.int) ∧ ns.length < 128 ∧
  ∀ (l : Addr) (ms : List Int), H1 l = none → (∀ x, x ∈ ms ↔ x ∈ ns) → ms.Pairwise (· < ·) → ms.length ≤ ns.length → Q (.ref l) (upd H1 l (.lst (ms.map V.int)))
theorem lt_of_le_nodup : ∀ {l : List Int}, l.Pairwise (· ≤ ·) → l.Nodup → l.Pairwise (· < ·) := by
  intro l h1 h2
  refine List.Pairwise.imp ?_ (List.pairwise_and_iff.mpr ⟨h1, h2⟩)
  rintro a b ⟨x, y⟩
  omega
theorem pe_sortedSet {e : Expr} {ta : TA} {p p2 pos pos2 : Pos} (hc : X.calm = true) (hg : Gl X "sorted") (hm : X.mg "sorted" = none) (hg2 : Gl X "set") (hm2 : X.mg "set" = none) (ha : PA X [e] ta)
    (hs : starEach [.Call (.Name "set" p2) [e] [] pos2] X.env = [(false, eval (.Call (.Name "set" p2) [e] [] pos2) X.env)] := by rfl) (hs2 : starEach [e] X.env = (false, eval e X.env) :: starEach [] X.env := by rfl) (hs3 : (backTo pos2 (starEach [] X.env)).any (·.1) = false := by rfl) :
    PE X (.Call (.Name "sorted" p) [.Call (.Name "set" p2) [e] [] pos2] [] pos) (tSortedSet (X := X) ta) := by
  intro pins s σ H Q I h
  refine wpAny_Call_Name_kw (ld_blt I hg hm PyProof.Rows.boot_sorted ?_ (by decide) (by decide))
  refine PyProof.Rows.callWith_builtin1 ?_ hs rfl
  rw [hs]
  show wpAny _ _ (spliced ((false, eval (.Call (.Name "set" p2) [e] [] pos2) X.env) :: backTo pos (starEach [] X.env))) _ _ s
  refine Calls.spliced_cons ?_
  refine wpAny_Call_Name_kw (ld_blt I hg2 hm2 PyProof.Rows.boot_set ?_ (by decide) (by decide))
  refine PyProof.Rows.callWith_type1 (thn (ha pos2 pins s σ H _ I h) fun us s1 h1 => ?_) hs2 hs3
  obtain ⟨vs, H1, I1, r1, a, ns, rfl, hq, hl, q⟩ := h1
  obtain ⟨u, rfl, rx⟩ := vals1 r1
  cases rx
  obtain ⟨its, r', pl, hz⟩ := I1.list hq
  have hlen := r'.length
  rw [List.length_map] at hlen hz
  have hI := intsAre_of r'
  refine St1.call_set_T (I1.ok.hd hc) pl.isList hI (by show its.toArray.size + 1 < 4096; rw [List.size_toArray]; omega) fun h' tk hS hk => ?_
  refine Calls.spliced_nil ?_
  simp only [List.size_toArray] at hS
  have hfl := firstMet_length_le (fun i => ns.getD i 0) its.length
  have hmem : ∀ x, x ∈ firstMet (fun i => ns.getD i 0) its.length ↔ x ∈ ns := fun x => by
    have h1 := firstMet_any (fun i => ns.getD i 0) its.length x
    have e2 : (List.range its.length).map (fun i => ns.getD i 0) = ns := by
      rw [← hlen]
      refine List.ext_getElem (by simp) fun i p1 p2 => ?_
      rw [List.getElem_map, List.getElem_range, List.getD_eq_getElem?_getD, List.getElem?_eq_getElem p2]
      rfl
    rw [e2] at h1
    have h2 := congrArg (· = true) h1
    simp only [List.any_eq_true, beq_iff_eq, exists_eq_right, eq_iff_iff] at h2
    exact h2
  refine St1.sorted_set (F := firstMet (fun i => ns.getD i 0) its.length) (s := { s1 with heap := h', toks := tk }) (I1.ok.hd hc) (St1.met_nodup _ _) (by omega) hS fun s2 l e out ys a1 a2 a3 ext hl2 he eg eo => ?_
  have hsz : s1.heap.objs.size ≤ l := by
    obtain ⟨o, es, ep, t, ho, _⟩ := hS
    exact Nat.le_of_lt (Nat.lt_of_lt_of_le (Heap.lt_size ho) hl2)
  have hyl : ys.length = (firstMet (fun i => ns.getD i 0) its.length).length := a2.length_eq
  have I2 : Inv X pins σ (upd H1 l (.lst (ys.map V.int))) { s1 with heap := s2.heap, toks := s2.toks } :=
    I1.laid (t' := s2.toks) (fun b o z => ext b o (hk b o (Heap.lt_size z) z)) hsz
      (show ObjOk X.prog X.w _ _ _ (.lst (ys.map V.int)) from ⟨by rw [List.length_map, sizeLine_eq]; omega, out.toList, e, vals_ints a1, by rw [Array.toArray_toList]; exact he⟩)
  have hnd : ys.Nodup := a2.nodup_iff.mpr (St1.met_nodup _ _)
  exact ⟨.ref l, _, Inv.re I2 rfl eg eo, rfl, q l ys (I1.hok.fresh hsz) (fun x => (a2.mem_iff).trans (hmem x)) (lt_of_le_nodup a3 hnd) (by omega)⟩
end
end L3

set_option Elab.async false
set_option linter.all false
set_option maxRecDepth 100000
set_option maxHeartbeats 4000000
namespace Rb
open PySem L2 L3 PyProof.Rows
def top (i : Nat) : Stmt := PySem.Challenge.pw_rodbeads_k04_places_of_beads.main.body.getD i (.Pass ⟨0, 0, 0, 0⟩)
abbrev s_row_of : Stmt := top 5
abbrev s_pairs : Stmt := top 6
abbrev s_check_places : Stmt := top 7
abbrev s_ldrawn : Stmt := top 9
abbrev s_lwhole : Stmt := top 10
abbrev s_lrow : Stmt := top 11
abbrev s_lplaces_by : Stmt := top 13
abbrev s_lmarks : Stmt := top 14
abbrev s_lgood : Stmt := top 15
abbrev s_law : Stmt := top 16
theorem sc_row_of : FnScope ["places", "gaps"] ["places"] (defScope s_row_of) := ⟨rfl, rfl, rfl, by decide +kernel, rfl, by decide +kernel, by decide +kernel⟩
theorem sc_pairs : FnScope ["places", "found", "free", "unseen", "bead"] ["places"] (defScope s_pairs) := ⟨rfl, rfl, rfl, by decide +kernel, rfl, by decide +kernel, by decide +kernel⟩
theorem sc_check_places : FnScope ["places", "last", "place"] ["places"] (defScope s_check_places) := ⟨rfl, rfl, rfl, by decide +kernel, rfl, by decide +kernel, by decide +kernel⟩
theorem sc_ldrawn : FnScope ["script", "k", "many", "cell", "mixed"] ["script", "k", "many"] (defScope s_ldrawn) := ⟨rfl, rfl, rfl, by decide +kernel, rfl, by decide +kernel, by decide +kernel⟩
theorem sc_lwhole : FnScope ["found"] ["found"] (defScope s_lwhole) := ⟨rfl, rfl, rfl, by decide +kernel, rfl, by decide +kernel, by decide +kernel⟩
theorem sc_lrow : FnScope ["found", "due", "k"] ["found", "due"] (defScope s_lrow) := ⟨rfl, rfl, rfl, by decide +kernel, rfl, by decide +kernel, by decide +kernel⟩
theorem sc_lplaces_by : FnScope ["script", "many", "bound", "places", "way", "at", "spot"] ["script"] (defScope s_lplaces_by) := ⟨rfl, rfl, rfl, by decide +kernel, rfl, by decide +kernel, by decide +kernel⟩
theorem sc_lmarks : FnScope ["places", "way", "e"] ["places", "way"] (defScope s_lmarks) := ⟨rfl, rfl, rfl, by decide +kernel, rfl, by decide +kernel, by decide +kernel⟩
theorem sc_lgood : FnScope ["places"] ["places"] (defScope s_lgood) := ⟨rfl, rfl, rfl, by decide +kernel, rfl, by decide +kernel, by decide +kernel⟩
theorem sc_law : FnScope ["script", "places", "handed", "none", "due", "row", "bead", "gaps", "lap", "found", "told", "pair"] ["script"] (defScope s_law) := ⟨rfl, rfl, rfl, by decide +kernel, rfl, by decide +kernel, by decide +kernel⟩
theorem getD_of {ns : List Int} {j : Nat} (h : j < ns.length) : ns[j]? = some (ns.getD j 0) := by
  rw [List.getD_eq_getElem?_getD, List.getElem?_eq_getElem h]; rfl
theorem at_int {ns : List Int} {i : Int} (h0 : 0 ≤ i) (h : i < (ns.length : Int)) : atI (ns.map V.int) i = some (.int (ns.getD i.toNat 0)) := by
  have hk : i.toNat < ns.length := by omega
  have ek : i = ((i.toNat : Nat) : Int) := by omega
  have q : atI (ns.map V.int) ((i.toNat : Nat) : Int) = some (.int (ns.getD i.toNat 0)) := atI_nat (by rw [List.getElem?_map, getD_of hk]; rfl)
  rw [← ek] at q
  exact q
theorem getD_elem {ns : List Int} {j : Nat} (h : j < ns.length) : ns[j] = ns.getD j 0 := by
  rw [List.getD_eq_getElem?_getD, List.getElem?_eq_getElem h]; rfl
theorem ext_getD {xs ys : List Int} (h : xs.length = ys.length) (e : ∀ j : Nat, j < xs.length → xs.getD j 0 = ys.getD j 0) : xs = ys := by
  refine List.ext_getElem h fun j h1 h2 => ?_
  have := e j h1
  rw [List.getD_eq_getElem?_getD, List.getD_eq_getElem?_getD, List.getElem?_eq_getElem h1, List.getElem?_eq_getElem h2] at this
  exact this
def spDrawn (K : PySem.W.Frag) : Sp := fun vs H Q _ => ∃ (a : Addr) (ns : List Int) (k m : Int), vs = [.ref a, .int k, .int m] ∧ SqL K H a (ns.map V.int) ∧ ns.length ≤ 63 ∧ 0 ≤ k ∧ k ≤ 1000000 ∧ 0 < m ∧ ∀ d : Int, 0 ≤ d → d < m → Q (.int d) H
def spWhole : Sp := fun vs H Q _ => ∃ i : Int, vs = [.int i] ∧ Q (.bl true) H
def spLRow (K : PySem.W.Frag) : Sp := fun vs H Q _ => ∃ (p p2 : Addr) (xs ys : List Int), vs = [.ref p, .ref p2] ∧ H p = some (.lst (xs.map V.int)) ∧ SqL K H p2 (ys.map V.int) ∧ xs.length ≤ 100000 ∧ ys.length ≤ 100000 ∧ Q (.bl (decide (xs = ys))) H
theorem kit_int_int {K : PySem.W.Frag} : PySem.W.kitOne K (.type "int") (.type "int") = some true := rfl
theorem kit_list_list {K : PySem.W.Frag} : PySem.W.kitOne K (.type "list") (.type "list") = some true := rfl
theorem kit_tup_tup {K : PySem.W.Frag} : PySem.W.kitOne K (.type "tuple") (.type "tuple") = some true := rfl
theorem kit_int_bool {K : PySem.W.Frag} : PySem.W.kitOne K (.type "int") (.type "bool") = some false := by
  unfold PySem.W.kitOne
  rw [if_neg (by decide)]
  with_unfolding_all rfl

def spLaw (K : PySem.W.Frag) : Sp := fun vs H Q _ => ∃ (a : Addr) (ns : List Int), vs = [.ref a] ∧ SqL K H a (ns.map V.int) ∧ ns.length ≤ 63 ∧ ∀ H', Q (.bl true) H'

def stepP (s : Int × List Int × List (Int × Int)) (b : Int) : Int × List Int × List (Int × Int) := (b + 1, s.2.1 ++ seqI s.1 (b - s.1).toNat, s.2.2 ++ (s.2.1 ++ seqI s.1 (b - s.1).toNat).map fun f => (b, f))
def stP (ns : List Int) : Int × List Int × List (Int × Int) := ns.foldl stepP (0, [], [])
def pairsM (ns : List Int) : List (Int × Int) := (stP ns).2.2
theorem stP_take {ns : List Int} {i : Nat} (h : i < ns.length) : stP (ns.take (i + 1)) = stepP (stP (ns.take i)) (ns.getD i 0) := by
  have e : ns.take (i + 1) = ns.take i ++ [ns.getD i 0] := by
    rw [List.take_succ_eq_append_getElem h, List.getD_eq_getElem?_getD, List.getElem?_eq_getElem h]; rfl
  unfold stP
  rw [e, List.foldl_append]
  rfl
def Rise (ns : List Int) : Prop := ∀ j : Nat, j < ns.length → (if j = 0 then (-1 : Int) else ns.getD (j - 1) 0) < ns.getD j 0
structure PT (H : Hp) (p : Addr) (ps : List Addr) (L : List (Int × Int)) : Prop where
  len : ps.length = L.length
  at' : H p = some (.lst (ps.map V.ref))
  each : ∀ k : Nat, k < L.length → H (ps.getD k 0) = some (.tup [.int (L.getD k (0, 0)).1, .int (L.getD k (0, 0)).2])
theorem PT.same {H H' : Hp} {p : Addr} {ps : List Addr} {L : List (Int × Int)} (h : PT H p ps L) (e : Same H H') : PT H' p ps L := ⟨h.len, e _ _ h.at', fun k hk => e _ _ (h.each k hk)⟩
def spPairs (K : PySem.W.Frag) : Sp := fun vs H Q _ => ∃ (a : Addr) (ns : List Int), vs = [.ref a] ∧ SqL K H a (ns.map V.int) ∧ Rise ns ∧ ns.length ≤ 200 ∧ (∀ x ∈ ns, x ≤ 1000) ∧
  ∀ (p : Addr) (ps : List Addr) (H' : Hp), Same H H' → H p = none → PT H' p ps (pairsM ns) → Q (.ref p) H'
theorem rise_pos {ns : List Int} (h : Rise ns) : ∀ j : Nat, j < ns.length → 0 ≤ ns.getD j 0
  | 0, hj => by have := h 0 hj; rw [if_pos rfl] at this; omega
  | j + 1, hj => by
    have a := rise_pos h j (by omega)
    have b := h (j + 1) hj
    rw [if_neg (by omega)] at b
    have e : j + 1 - 1 = j := rfl
    rw [e] at b
    omega
def gapsOf (ns : List Int) : List Int := (List.range ns.length).map fun (k : Nat) => ns.getD k 0 - (k : Int)
def rowOfM (ns : List Int) : List Int := (gapsOf ns).reverse.filter fun g => decide (0 < g)
theorem gapsOf_len (ns : List Int) : (gapsOf ns).length = ns.length := by unfold gapsOf; rw [List.length_map, List.length_range]
theorem gapsOf_at {ns : List Int} {i : Nat} (h : i < ns.length) : (gapsOf ns).getD i 0 = ns.getD i 0 - (i : Int) := by
  unfold gapsOf
  rw [List.getD_eq_getElem?_getD, List.getElem?_map, List.getElem?_range h]
  rfl
def spRowOf (K : PySem.W.Frag) : Sp := fun vs H Q _ => ∃ (a : Addr) (ns : List Int), vs = [.ref a] ∧ SqL K H a (ns.map V.int) ∧ Rise ns ∧ ns.length ≤ 1000 ∧
  ∀ (p : Addr) (H' : Hp), Same H H' → H p = none → H' p = some (.lst ((rowOfM ns).map V.int)) → Q (.ref p) H'

theorem getD_snoc_left {ps : List Addr} {p : Addr} {j : Nat} (h : j < ps.length) : (ps ++ [p]).getD j 0 = ps.getD j 0 := by
  rw [List.getD_eq_getElem?_getD, List.getD_eq_getElem?_getD, List.getElem?_append_left h]
theorem getD_snoc_last {ps : List Addr} {p : Addr} : (ps ++ [p]).getD ps.length 0 = p := by
  rw [List.getD_eq_getElem?_getD, List.getElem?_append_right (Nat.le_refl _), Nat.sub_self]; rfl
def frM (ns : List Int) (n : Nat) : List Int := ((List.range n).map fun (k : Nat) => (k : Int)).filter fun k => decide (k ∉ ns)
theorem frM_succ (ns : List Int) (n : Nat) : frM ns (n + 1) = frM ns n ++ (if (n : Int) ∈ ns then [] else [(n : Int)]) := by
  unfold frM
  rw [List.range_succ, List.map_append, List.filter_append]
  congr 1
  by_cases h : (n : Int) ∈ ns
  · rw [if_pos h]; simp [h]
  · rw [if_neg h]; simp [h]
theorem frM_seq {ns : List Int} (u : Nat) : ∀ d : Nat, (∀ k : Nat, u ≤ k → k < u + d → (k : Int) ∉ ns) → frM ns (u + d) = frM ns u ++ seqI (u : Int) d
  | 0, _ => by
    have : seqI (u : Int) 0 = [] := rfl
    rw [this, List.append_nil]; rfl
  | d + 1, h => by
    have ih := frM_seq u d fun k h1 h2 => h k h1 (by omega)
    have e : seqI (u : Int) (d + 1) = seqI (u : Int) d ++ [((u + d : Nat) : Int)] := by
      unfold seqI
      rw [List.range_succ, List.map_append]
      rfl
    rw [show u + (d + 1) = (u + d) + 1 from rfl, frM_succ, ih, if_neg (h (u + d) (by omega) (by omega)), e, List.append_assoc]
theorem rise_lt {ns : List Int} (h : Rise ns) {i : Nat} : ∀ {d : Nat}, i + d + 1 < ns.length → ns.getD i 0 < ns.getD (i + d + 1) 0
  | 0, hj => by
    have a := h (i + 0 + 1) hj
    rw [if_neg (by omega)] at a
    exact a
  | d + 1, hj => by
    have a := h (i + (d + 1) + 1) hj
    rw [if_neg (by omega)] at a
    have b := rise_lt h (i := i) (d := d) (by omega)
    have e : i + (d + 1) + 1 - 1 = i + d + 1 := by omega
    rw [e] at a
    omega
theorem rise_up {ns : List Int} (h : Rise ns) {i j : Nat} (hij : i < j) (hj : j < ns.length) : ns.getD i 0 < ns.getD j 0 := by
  obtain ⟨d, rfl⟩ : ∃ d, j = i + d + 1 := ⟨j - i - 1, by omega⟩
  exact rise_lt h hj
theorem rise_mem {ns : List Int} (h : Rise ns) {i : Nat} (hi : i < ns.length) {x : Int} (h1 : (if i = 0 then (-1 : Int) else ns.getD (i - 1) 0) < x) (h2 : x < ns.getD i 0) : x ∉ ns := fun hx => by
  obtain ⟨k, hk, e⟩ := List.getElem_of_mem hx
  have e' : ns.getD k 0 = x := by rw [List.getD_eq_getElem?_getD, List.getElem?_eq_getElem hk]; exact e
  by_cases z : k < i
  · rw [if_neg (by omega)] at h1
    by_cases y : k = i - 1
    · subst y; omega
    · have := rise_up h (i := k) (j := i - 1) (by omega) (by omega)
      omega
  · by_cases y : k = i
    · subst y; omega
    · have := rise_up h (i := i) (j := k) (by omega) hk
      omega
def duePs (ns : List Int) (i : Nat) : List (Int × Int) := ((ns.take i).map fun b => (frM ns b.toNat).map fun g => (b, g)).flatten
def rowTo (ns : List Int) (i : Nat) : List Int := ((gapsOf ns).take i).reverse.filter fun g => decide (0 < g)
theorem take_snoc {ns : List Int} {i : Nat} (h : i < ns.length) : ns.take (i + 1) = ns.take i ++ [ns.getD i 0] := by
  rw [List.take_succ_eq_append_getElem h, List.getD_eq_getElem?_getD, List.getElem?_eq_getElem h]; rfl
theorem due_step {ns : List Int} {i : Nat} (h : i < ns.length) : duePs ns (i + 1) = duePs ns i ++ (frM ns (ns.getD i 0).toNat).map fun g => (ns.getD i 0, g) := by
  unfold duePs
  rw [take_snoc h, List.map_append, List.flatten_append]
  congr 1
  rw [List.map_cons, List.map_nil, List.flatten_cons, List.flatten_nil, List.append_nil]
theorem row_step {ns : List Int} {i : Nat} (h : i < ns.length) : rowTo ns (i + 1) = (if 0 < ns.getD i 0 - (i : Int) then [ns.getD i 0 - (i : Int)] else []) ++ rowTo ns i := by
  unfold rowTo
  rw [take_snoc (by rw [gapsOf_len]; exact h), List.reverse_append, gapsOf_at h, List.filter_append]
  congr 1
  by_cases z : 0 < ns.getD i 0 - (i : Int)
  · rw [if_pos z, List.reverse_cons, List.reverse_nil, List.nil_append, List.filter_cons, if_pos (decide_eq_true z)]
    rfl
  · rw [if_neg z, List.reverse_cons, List.reverse_nil, List.nil_append, List.filter_cons, if_neg (by simpa using z)]
    rfl
theorem row_all (ns : List Int) : rowTo ns ns.length = rowOfM ns := by
  unfold rowTo rowOfM
  rw [List.take_of_length_le (by rw [gapsOf_len]; exact Nat.le_refl _)]
def uAt (ns : List Int) (i : Nat) : Int := if i = 0 then 0 else ns.getD (i - 1) 0 + 1
theorem fr_bead {ns : List Int} (h : Rise ns) {i : Nat} (hi : i < ns.length) : frM ns (ns.getD i 0).toNat = frM ns (uAt ns i).toNat ++ seqI (uAt ns i) (ns.getD i 0 - uAt ns i).toNat ∧ uAt ns i ≤ ns.getD i 0 ∧ 0 ≤ uAt ns i := by
  have hb := rise_pos h i hi
  have hu0 : 0 ≤ uAt ns i := by
    unfold uAt
    split
    · exact Int.le_refl _
    · have := rise_pos h (i - 1) (by omega)
      omega
  have hub : uAt ns i ≤ ns.getD i 0 := by
    have a := h i hi
    unfold uAt
    split
    · exact hb
    · next z => rw [if_neg z] at a; omega
  obtain ⟨u, hu⟩ : ∃ u : Nat, (u : Int) = uAt ns i := ⟨(uAt ns i).toNat, by omega⟩
  have k := frM_seq (ns := ns) u (ns.getD i 0 - uAt ns i).toNat fun x h1 h2 => by
    refine rise_mem h hi ?_ (by omega)
    unfold uAt at hu
    split at hu
    · next z => rw [if_pos z]; omega
    · next z => rw [if_neg z]; omega
  have e1 : u + (ns.getD i 0 - uAt ns i).toNat = (ns.getD i 0).toNat := by omega
  have e2 : (uAt ns i).toNat = u := by omega
  rw [e1, hu] at k
  rw [e2]
  exact ⟨k, hub, hu0⟩
theorem fr_next {ns : List Int} (h : Rise ns) {i : Nat} (hi : i < ns.length) : frM ns (uAt ns (i + 1)).toNat = frM ns (ns.getD i 0).toNat := by
  have hb := rise_pos h i hi
  have e : (uAt ns (i + 1)).toNat = (ns.getD i 0).toNat + 1 := by
    unfold uAt
    rw [if_neg (by omega)]
    show (ns.getD i 0 + 1).toNat = _
    omega
  rw [e, frM_succ]
  have e2 : (((ns.getD i 0).toNat : Nat) : Int) = ns.getD i 0 := by omega
  rw [e2, if_pos, List.append_nil]
  rw [List.getD_eq_getElem?_getD, List.getElem?_eq_getElem hi]
  exact List.getElem_mem hi
theorem st_all {ns : List Int} (h : Rise ns) : ∀ i : Nat, i ≤ ns.length → stP (ns.take i) = (uAt ns i, frM ns (uAt ns i).toNat, duePs ns i) ∧ ((frM ns (uAt ns i).toNat).length : Int) = uAt ns i - (i : Int)
  | 0, _ => ⟨rfl, rfl⟩
  | i + 1, hi => by
    obtain ⟨ih, il⟩ := st_all h i (by omega)
    obtain ⟨h1, h2, h3⟩ := fr_bead h (i := i) hi
    have h4 := fr_next h (i := i) hi
    have e : uAt ns (i + 1) = ns.getD i 0 + 1 := by unfold uAt; rw [if_neg (by omega)]; rfl
    refine ⟨?_, ?_⟩
    · rw [stP_take hi, ih]
      unfold stepP
      dsimp only
      rw [← h1, h4, due_step hi, e]
    · rw [h4, h1, List.length_append, seqI_length, e]
      omega
theorem pairs_due {ns : List Int} (h : Rise ns) : pairsM ns = duePs ns ns.length := by
  have := (st_all h ns.length (Nat.le_refl _)).1
  rw [List.take_length] at this
  unfold pairsM
  rw [this]
theorem fr_len {ns : List Int} (h : Rise ns) {i : Nat} (hi : i < ns.length) : ((frM ns (ns.getD i 0).toNat).length : Int) = ns.getD i 0 - (i : Int) := by
  have a := (st_all h (i + 1) hi).2
  rw [fr_next h hi] at a
  have e : uAt ns (i + 1) = ns.getD i 0 + 1 := by unfold uAt; rw [if_neg (by omega)]; rfl
  rw [e] at a
  omega
theorem frM_le (ns : List Int) (n : Nat) : (frM ns n).length ≤ n := by
  unfold frM
  refine Nat.le_trans (List.length_filter_le _ _) ?_
  rw [List.length_map, List.length_range]
  exact Nat.le_refl _
theorem due_len {ns : List Int} (h : ∀ x ∈ ns, x ≤ 200) : ∀ i : Nat, i ≤ ns.length → (duePs ns i).length ≤ i * 200
  | 0, _ => by show (duePs ns 0).length ≤ _; unfold duePs; rw [List.take_zero]; exact Nat.zero_le _
  | i + 1, hi => by
    have ih := due_len h i (by omega)
    rw [due_step hi, List.length_append, List.length_map]
    have a := frM_le ns (ns.getD i 0).toNat
    have hm : ns.getD i 0 ∈ ns := by rw [List.getD_eq_getElem?_getD, List.getElem?_eq_getElem hi]; exact List.getElem_mem hi
    have := h _ hm
    omega
theorem rise_iff {ns : List Int} : Rise ns ↔ ns.Pairwise (· < ·) ∧ ∀ x ∈ ns, 0 ≤ x := by
  constructor
  · intro h
    refine ⟨List.pairwise_iff_getElem.mpr fun i j hi hj hij => ?_, fun x hx => ?_⟩
    · have a := rise_up h hij hj
      rw [List.getD_eq_getElem?_getD, List.getD_eq_getElem?_getD, List.getElem?_eq_getElem hi, List.getElem?_eq_getElem hj] at a
      exact a
    · obtain ⟨k, hk, e⟩ := List.getElem_of_mem hx
      have a := rise_pos h k hk
      rw [List.getD_eq_getElem?_getD, List.getElem?_eq_getElem hk] at a
      rw [← e]
      exact a
  · rintro ⟨h1, h2⟩ j hj
    have hm : ns.getD j 0 ∈ ns := by rw [List.getD_eq_getElem?_getD, List.getElem?_eq_getElem hj]; exact List.getElem_mem hj
    split
    · have := h2 _ hm
      omega
    · have a := List.pairwise_iff_getElem.mp h1 (j - 1) j (by omega) hj (by omega)
      rw [List.getD_eq_getElem?_getD, List.getD_eq_getElem?_getD, List.getElem?_eq_getElem (by omega), List.getElem?_eq_getElem hj]
      exact a
theorem up_one : ∀ {l m : List Int}, l.Pairwise (· < ·) → m.Pairwise (· < ·) → (∀ x, x ∈ l ↔ x ∈ m) → l = m
  | [], [], _, _, _ => rfl
  | [], y :: m, _, _, h => by have := (h y).mpr (List.mem_cons_self ..); cases this
  | x :: l, [], _, _, h => by have := (h x).mp (List.mem_cons_self ..); cases this
  | x :: l, y :: m, h1, h2, h => by
    have a1 := List.pairwise_cons.mp h1
    have a2 := List.pairwise_cons.mp h2
    have exy : x = y := by
      have b1 := (h x).mp (List.mem_cons_self ..)
      have b2 := (h y).mpr (List.mem_cons_self ..)
      rcases List.mem_cons.mp b1 with z | z
      · exact z
      · rcases List.mem_cons.mp b2 with y' | y'
        · exact y'.symm
        · have c1 := a1.1 _ y'
          have c2 := a2.1 _ z
          omega
    subst exy
    rw [up_one a1.2 a2.2 fun z => ⟨fun hz => ?_, fun hz => ?_⟩]
    · rcases List.mem_cons.mp ((h z).mp (List.mem_cons_of_mem _ hz)) with e | e
      · have := a1.1 _ hz; omega
      · exact e
    · rcases List.mem_cons.mp ((h z).mpr (List.mem_cons_of_mem _ hz)) with e | e
      · have := a2.1 _ hz; omega
      · exact e
theorem good_iff {ns ms : List Int} (h : ∀ x, x ∈ ms ↔ x ∈ ns) (hm : ms.Pairwise (· < ·)) : ns = ms ↔ ns.Pairwise (· < ·) :=
  ⟨fun e => e ▸ hm, fun z => up_one z hm fun x => (h x).symm⟩

def spCheckX (K : PySem.W.Frag) (C : Addr) : Sp := fun vs H Q E => ∃ (a : Addr) (ns : List Int), vs = [.ref a] ∧ SqL K H a (ns.map V.int) ∧ (¬ Rise ns → E (.ref C) none H) ∧ (Rise ns → Q .non H)
def spRowOfX (K : PySem.W.Frag) (C : Addr) : Sp := fun vs H Q E => ∃ (a : Addr) (ns : List Int), vs = [.ref a] ∧ SqL K H a (ns.map V.int) ∧ ns.length ≤ 1000 ∧ (¬ Rise ns → E (.ref C) none H) ∧
  (Rise ns → ∀ (p : Addr) (H' : Hp), Same H H' → H p = none → H' p = some (.lst ((rowOfM ns).map V.int)) → Q (.ref p) H')
def spPairsX (K : PySem.W.Frag) (C : Addr) : Sp := fun vs H Q E => ∃ (a : Addr) (ns : List Int), vs = [.ref a] ∧ SqL K H a (ns.map V.int) ∧ ns.length ≤ 200 ∧ (∀ x ∈ ns, x ≤ 1000) ∧ (¬ Rise ns → E (.ref C) none H) ∧
  (Rise ns → ∀ (p : Addr) (ps : List Addr) (H' : Hp), Same H H' → H p = none → PT H' p ps (pairsM ns) → Q (.ref p) H')
def spPlacesBy (K : PySem.W.Frag) : Sp := fun vs H Q _ => ∃ (a : Addr) (ns : List Int), vs = [.ref a] ∧ SqL K H a (ns.map V.int) ∧ ns.length ≤ 63 ∧
  ∀ (p : Addr) (ms : List Int) (H' : Hp), Same H H' → H p = none → ms.length ≤ 80 → (∀ x ∈ ms, x ≤ 200) → H' p = some (.lst (ms.map V.int)) → Q (.ref p) H'
def spMarks4 (K : PySem.W.Frag) : Sp := fun vs H Q _ => ∃ (a : Addr) (ns : List Int) (y : Int), vs = [.ref a, .int y] ∧ SqL K H a (ns.map V.int) ∧ ns.length ≤ 200 ∧ (∀ x ∈ ns, x ≤ 1000) ∧ ¬ Rise ns ∧
  ∀ (l : Addr) (H' : Hp), Same H H' → H' l = some (.lst [.bl true, .bl true, .bl false]) → Q (.ref l) H'
def spGood (K : PySem.W.Frag) : Sp := fun vs H Q _ => ∃ (a : Addr) (ns : List Int), vs = [.ref a] ∧ SqL K H a (ns.map V.int) ∧ ns.length < 128 ∧ ∀ (b : Bool) (H' : Hp), (b = true ↔ Rise ns) → Same H H' → Q (.bl b) H'
theorem inV_int (v : Int) (ns : List Int) : inV (.int v) (ns.map V.int) = decide (v ∈ ns) := by
  unfold inV
  rw [Bool.eq_iff_iff, List.any_eq_true, decide_eq_true_eq]
  constructor
  · rintro ⟨x, hx, e⟩
    obtain ⟨y, hy, rfl⟩ := List.mem_map.mp hx
    have : y = v := by simpa [eqV] using e
    rw [← this]; exact hy
  · intro h
    exact ⟨.int v, List.mem_map.mpr ⟨v, h, rfl⟩, by simp [eqV]⟩
theorem ixN_of {n : Nat} {k : Int} (h0 : 0 ≤ k) (h1 : k < (n : Int)) : ixN n k = some k.toNat := by
  unfold ixN
  rw [if_pos h0, if_pos h1]
theorem six_of {n : Nat} {k : Int} (h0 : 0 ≤ k) (h1 : k < (n : Int)) : seqIndex? k n = some k.toNat := by
  have hj : (if k < 0 then k + (n : Int) else k) = k := if_neg (by omega)
  unfold seqIndex?
  simp only [hj]
  rw [if_pos (by rw [decide_eq_true h0, decide_eq_true h1]; rfl)]
def dPs (L : List (Int × Int)) : List PyData := L.map fun p => PyData.tuple [.int p.1, .int p.2]
theorem rd_pss {K : PySem.W.Frag} {H : Hp} : ∀ (ps : List Addr) (L : List (Int × Int)), ps.length = L.length → (∀ k : Nat, k < L.length → H (ps.getD k 0) = some (.tup [.int (L.getD k (0, 0)).1, .int (L.getD k (0, 0)).2])) → RdDs K H (ps.map V.ref) (dPs L)
  | [], [], _, _ => by unfold dPs; rw [List.map_nil, List.map_nil, RdDs]; trivial
  | [], _ :: _, h, _ => by cases h
  | _ :: _, [], h, _ => by cases h
  | p :: ps, l :: L, h, e => by
    unfold dPs
    rw [List.map_cons, List.map_cons, RdDs]
    refine ⟨?_, rd_pss ps L (Nat.succ.inj h) fun k hk => ?_⟩
    · have e0 := e 0 (Nat.zero_lt_succ _)
      simp only [RdD, RdDs]
      exact ⟨p, _, rfl, SqT.of e0, rfl, rfl, trivial⟩
    · have := e (k + 1) (Nat.succ_lt_succ hk)
      rw [List.getD_cons_succ, List.getD_cons_succ] at this
      exact this
theorem rd_ps {K : PySem.W.Frag} {H : Hp} {p : Addr} {ps : List Addr} {L : List (Int × Int)} (h : PT H p ps L) : RdD K H (.ref p) (.list (dPs L)) := by
  rw [RdD]
  exact ⟨p, _, rfl, SqL.of h.at', rd_pss ps L h.len h.each⟩
theorem lay_ps : ∀ L : List (Int × Int), PyData.canLayAll0 (dPs L) = true
  | [] => rfl
  | l :: L => by
    have := lay_ps L
    unfold dPs at this ⊢
    rw [List.map_cons, PyData.canLayAll0, this]; rfl
theorem depth_ps : ∀ L : List (Int × Int), PyData.depthAll (dPs L) ≤ 1
  | [] => Nat.zero_le _
  | l :: L => by
    have := depth_ps L
    unfold dPs at this ⊢
    rw [List.map_cons, PyData.depthAll]
    have e : (PyData.tuple [.int l.1, .int l.2]).depth = 1 := rfl
    rw [e]
    omega
theorem eqv_ps (L : List (Int × Int)) : PyData.eqv (.list (dPs L)) (.list (dPs L)) = true := SeqAt.eqv_refl _ (by rw [PyData.canLay0]; exact lay_ps L)

structure Tx (K : PySem.W.Frag) (mg : Str → Option Value) (f_row_of : Addr) (d_row_of : FuncData) (f_pairs : Addr) (d_pairs : FuncData) (f_check_places : Addr) (d_check_places : FuncData) (f_ldrawn : Addr) (d_ldrawn : FuncData) (f_lwhole : Addr) (d_lwhole : FuncData) (f_lrow : Addr) (d_lrow : FuncData) (f_lplaces_by : Addr) (d_lplaces_by : FuncData) (f_lmarks : Addr) (d_lmarks : FuncData) (f_lgood : Addr) (d_lgood : FuncData) (c_BeadError : Addr) (c_TooFew : Addr) (c_NoBeads : Addr) : Prop where
  F_row_of : Fun K "row_of" "row_of" s_row_of f_row_of d_row_of
  m_row_of : mg "row_of" = some (.ref f_row_of)
  b_row_of : Binds K d_row_of ["places"] []
  F_pairs : Fun K "pairs" "pairs" s_pairs f_pairs d_pairs
  m_pairs : mg "pairs" = some (.ref f_pairs)
  b_pairs : Binds K d_pairs ["places"] []
  F_check_places : Fun K "check_places" "check_places" s_check_places f_check_places d_check_places
  m_check_places : mg "check_places" = some (.ref f_check_places)
  b_check_places : Binds K d_check_places ["places"] []
  F_ldrawn : Fun K "_law_drawn" "_law_drawn" s_ldrawn f_ldrawn d_ldrawn
  m_ldrawn : mg "_law_drawn" = some (.ref f_ldrawn)
  b_ldrawn : Binds K d_ldrawn ["script", "k", "many"] []
  F_lwhole : Fun K "_law_whole" "_law_whole" s_lwhole f_lwhole d_lwhole
  m_lwhole : mg "_law_whole" = some (.ref f_lwhole)
  b_lwhole : Binds K d_lwhole ["found"] []
  F_lrow : Fun K "_law_row" "_law_row" s_lrow f_lrow d_lrow
  m_lrow : mg "_law_row" = some (.ref f_lrow)
  b_lrow : Binds K d_lrow ["found", "due"] []
  F_lplaces_by : Fun K "_law_places_by" "_law_places_by" s_lplaces_by f_lplaces_by d_lplaces_by
  m_lplaces_by : mg "_law_places_by" = some (.ref f_lplaces_by)
  b_lplaces_by : Binds K d_lplaces_by ["script"] []
  F_lmarks : Fun K "_law_marks" "_law_marks" s_lmarks f_lmarks d_lmarks
  m_lmarks : mg "_law_marks" = some (.ref f_lmarks)
  b_lmarks : Binds K d_lmarks ["places", "way"] []
  F_lgood : Fun K "_law_good" "_law_good" s_lgood f_lgood d_lgood
  m_lgood : mg "_law_good" = some (.ref f_lgood)
  b_lgood : Binds K d_lgood ["places"] []
  z_ValueError : mg "ValueError" = none
  z_bool : mg "bool" = none
  z_enumerate : mg "enumerate" = none
  z_int : mg "int" = none
  z_isinstance : mg "isinstance" = none
  z_len : mg "len" = none
  z_list : mg "list" = none
  z_min : mg "min" = none
  z_range : mg "range" = none
  z_reversed : mg "reversed" = none
  z_set : mg "set" = none
  z_sorted : mg "sorted" = none
  z_tuple : mg "tuple" = none
  C_BeadError : mg "BeadError" = some (.ref c_BeadError)
  C_TooFew : mg "TooFew" = some (.ref c_TooFew)
  C_NoBeads : mg "NoBeads" = some (.ref c_NoBeads)
  x_NoBeads : PySem.W.excIn K c_NoBeads bmV "ValueError.__new__" = true
  K_NoBeads : ExcK K c_NoBeads
  v_NoBeads : PySem.W.kitOne K (.ref c_NoBeads) (.type "ValueError") = some true
  e_NoBeads_BeadError : PySem.W.exmOne K (.ref c_NoBeads) (.ref c_BeadError) = some true
  i_NoBeads_NoBeads : PySem.W.kitOne K (.ref c_NoBeads) (.ref c_NoBeads) = some true
  i_NoBeads_TooFew : PySem.W.kitOne K (.ref c_NoBeads) (.ref c_TooFew) = some false
section
variable {P : Program} {w : World} {K : PySem.W.Frag} {mg : Str → Option Value} {base : Heap} {f_row_of f_pairs f_check_places f_ldrawn f_lwhole f_lrow f_lplaces_by f_lmarks f_lgood : Addr} {d_row_of d_pairs d_check_places d_ldrawn d_lwhole d_lrow d_lplaces_by d_lmarks d_lgood : FuncData} {c_BeadError c_TooFew c_NoBeads : Addr}
theorem ok_ldrawn (T : Tx K mg f_row_of d_row_of f_pairs d_pairs f_check_places d_check_places f_ldrawn d_ldrawn f_lwhole d_lwhole f_lrow d_lrow f_lplaces_by d_lplaces_by f_lmarks d_lmarks f_lgood d_lgood c_BeadError c_TooFew c_NoBeads) : FnOk P w K mg base CX0 1 f_ldrawn d_ldrawn ["script", "k", "many"] (spDrawn K) := by
  refine T.F_ldrawn.ok sc_ldrawn (fun vs H Q E h => ?_) (fun cdv A outer s H vs Q E hr h => ?_)
  · obtain ⟨a, ns, k, m, rfl, _⟩ := h
    rfl
  obtain ⟨a, ns, k, m, rfl, hS, h63, h0, h1, hm, q⟩ := h
  refine ⟨_, (pss_cons (ps_set (i := 3) sc_ldrawn.nd rfl (Or.inl rfl) pe_int)
      (pss_cons (ps_mid (ps_if (pt_cmpR op_gt (pe_callB call_len_seq rfl T.z_len PySem.boot_len (pa_cons (pv 0) pa_nil)) pe_int (nomark _)) (pss_one (ps_set (i := 3) sc_ldrawn.nd rfl (Or.inl rfl) (pe_ix ix_list (pv 0) (pe_op op_mod (pv 1) (pe_callB call_len_seq rfl T.z_len PySem.boot_len (pa_cons (pv 0) pa_nil))) (fun _ _ => rfl)))) pss_nil))
      (pss_cons (ps_set (i := 4) sc_ldrawn.nd rfl (Or.inl rfl) (pe_op op_add (pe_op op_add (pe_op op_mul (pv 3) (pe_op op_add pe_int (pe_op op_mul pe_int (pe_op op_mod (pv 1) pe_int)))) (pe_op op_mul (pe_op op_mul (pe_op op_add (pv 1) pe_int) (pe_op op_add (pv 1) pe_int)) pe_int)) (pe_callB call_len_seq rfl T.z_len PySem.boot_len (pa_cons (pv 0) pa_nil))))
      (pss_one (ps_ret (pe_op op_mod (pe_op op_fdiv (pe_op op_mod (pv 4) pe_int) pe_int) (pv 2))))))), ?_⟩
  have hl : (ns.map V.int).length = ns.length := List.length_map _
  have fin : ∀ z : Int, Q (.int (z % 2147483647 / 16 % m)) H := fun z => q _ (Int.emod_nonneg _ (by omega)) (Int.emod_lt_of_pos _ hm)
  have k97 : 0 ≤ k % 97 ∧ k % 97 < 97 := ⟨Int.emod_nonneg _ (by decide), Int.emod_lt_of_pos _ (by decide)⟩
  refine ⟨fun σ H' => ∃ c : Int, σ = [some (.ref a), some (.int k), some (.int m), some (.int c), none] ∧ H' = H, ?_, ?_⟩
  · refine ⟨_, rfl, a, _, rfl, .inl hS, _, _, rfl, rfl, _, rfl, ?_⟩
    refine ite2 (fun c => ?_) (fun c => ?_)
    · have c' : (0 : Int) < (((ns.map V.int).length : Nat) : Int) := of_decide_eq_true c
      have c2 : (0 : Int) < (ns.length : Int) := by rw [hl] at c'; exact c'
      have hv := at_int (ns := ns) (i := k % (((ns.map V.int).length : Nat) : Int)) (Int.emod_nonneg _ (by omega)) (by rw [hl]; exact Int.emod_lt_of_pos _ c2)
      exact ⟨_, rfl, _, rfl, _, rfl, a, _, rfl, .inl hS, _, _, rfl, rfl, c', a, _, _, _, rfl, rfl, hS, hv, _, rfl, rfl⟩
    · exact ⟨7, rfl, rfl⟩
  · rintro σ H' ⟨c, rfl, rfl⟩
    refine ⟨_, rfl, _, rfl, _, _, rfl, rfl, (by show (0 : Int) < 97; decide), _, _, rfl, rfl, .inl ⟨by decide, by decide⟩, _, _, rfl, rfl, _, _, rfl, rfl, .inr ⟨by omega, by omega⟩, _, rfl, _, _, rfl, rfl, _, rfl, _, _, rfl, rfl, _, _, rfl, rfl, .inl ⟨by omega, by omega⟩, _, _, rfl, rfl, .inr ⟨by decide, by decide⟩, _, _, rfl, rfl, _, rfl, a, _, rfl, .inl hS, _, _, rfl, rfl, ?_⟩
    exact ⟨_, rfl, _, _, rfl, rfl, (by show (0 : Int) < 2147483647; decide), _, _, rfl, rfl, ⟨by decide, by decide⟩, _, rfl, _, _, rfl, rfl, hm, fin _⟩


theorem ok_lwhole (T : Tx K mg f_row_of d_row_of f_pairs d_pairs f_check_places d_check_places f_ldrawn d_ldrawn f_lwhole d_lwhole f_lrow d_lrow f_lplaces_by d_lplaces_by f_lmarks d_lmarks f_lgood d_lgood c_BeadError c_TooFew c_NoBeads) : FnOk P w K mg base CX0 1 f_lwhole d_lwhole ["found"] spWhole := by
  refine T.F_lwhole.ok sc_lwhole (fun vs H Q E h => ?_) (fun cdv A outer s H vs Q E hr h => ?_)
  · obtain ⟨i, rfl, _⟩ := h
    rfl
  obtain ⟨i, rfl, q⟩ := h
  refine ⟨_, (pss_one (ps_ret (pe_and (pe_callB call_isinst rfl T.z_isinstance boot_isinstance (pa_cons (pv 0) (pa_cons (pe_bltn (v := .ty "int") rfl T.z_int boot_int rfl) pa_nil))) (pe_one (pe_not (pe_callB call_isinst rfl T.z_isinstance boot_isinstance (pa_cons (pv 0) (pa_cons (pe_bltn (v := .ty "bool") rfl T.z_bool boot_bool rfl) pa_nil)))))))), ?_⟩
  refine ⟨_, rfl, _, _, _, true, rfl, .int i, kit_int_int, _, rfl, iteT ?_⟩
  exact ⟨_, rfl, _, _, _, false, rfl, .int i, kit_int_bool, _, rfl, q⟩


theorem ok_lrow (T : Tx K mg f_row_of d_row_of f_pairs d_pairs f_check_places d_check_places f_ldrawn d_ldrawn f_lwhole d_lwhole f_lrow d_lrow f_lplaces_by d_lplaces_by f_lmarks d_lmarks f_lgood d_lgood c_BeadError c_TooFew c_NoBeads) : FnOk P w K mg base CX0 2 f_lrow d_lrow ["found", "due"] (spLRow K) := by
  have G_lwhole : FnOk P w K mg base CX0 1 f_lwhole d_lwhole ["found"] spWhole := ok_lwhole T
  refine T.F_lrow.ok sc_lrow (fun vs H Q E h => ?_) (fun cdv A outer s H vs Q E hr h => ?_)
  · obtain ⟨p, p2, xs, ys, rfl, _⟩ := h
    rfl
  obtain ⟨p, p2, xs, ys, rfl, hp, hq, hx5, hy5, q⟩ := h
  refine ⟨_, (pss_cons (ps_if (PW.pt (pw_or (pt_not (pt_val (pe_callB call_isinst rfl T.z_isinstance boot_isinstance (pa_cons (pv 0) (pa_cons (pe_bltn (v := .ty "list") rfl T.z_list boot_list rfl) pa_nil))))) (pw_or1 (pt_cmpR op_ne (pe_callB call_len_seq rfl T.z_len PySem.boot_len (pa_cons (pv 0) pa_nil)) (pe_callB call_len_seq rfl T.z_len PySem.boot_len (pa_cons (pv 1) pa_nil)) (nomark _))))) (pss_one (ps_ret pe_bl)) pss_nil)
      (pss_cons (ps_for PassesOwn.never rfl (pi_range1 rfl T.z_range (pa_cons (pe_callB call_len_seq rfl T.z_len PySem.boot_len (pa_cons (pv 1) pa_nil)) pa_nil)) (pg_name (i := 2) sc_lrow.nd rfl (Or.inl rfl)) (pss_one (ps_if (PW.pt (pw_or (pt_not (pt_val (pe_call G_lwhole (hr.mono (by decide)) rfl T.m_lwhole T.F_lwhole.kp T.b_lwhole .nil pass0 (pa_cons (pe_ix ix_list (pv 0) (pv 2) (fun _ _ => rfl)) pa_nil)))) (pw_or1 (pt_cmpR op_ne (pe_ix ix_list (pv 0) (pv 2) (fun _ _ => rfl)) (pe_ix ix_list (pv 1) (pv 2) (fun _ _ => rfl)) (nomark _))))) (pss_one (ps_ret pe_bl)) pss_nil)))
      (pss_one (ps_ret pe_bl)))), ?_⟩
  have lx : (xs.map V.int).length = xs.length := List.length_map _
  have ly : (ys.map V.int).length = ys.length := List.length_map _
  refine ⟨_, rfl, _, _, _, true, rfl, .lst hp, kit_list_list, _, rfl, iteF ?_⟩
  refine ⟨_, rfl, p, _, rfl, .inl (SqL.of hp), _, rfl, p2, _, rfl, .inl hq, rfl, _, rfl, ?_⟩
  by_cases hl : xs.length = ys.length
  · refine iteNS (by rw [lx, ly, hl]) ?_
    refine ⟨_, rfl, p2, _, rfl, .inl hq, _, rfl, by omega, by omega, for_range (lo := 0) (n := ((((ys.map V.int).length : Nat) : Int)).toNat) (fun i σ H2 => ∃ u : Option V, σ = [some (.ref p), some (.ref p2), u] ∧ H2 = H ∧ ∀ j : Nat, j < i → xs.getD j 0 = ys.getD j 0)
      ⟨none, rfl, rfl, fun j hj => absurd hj (Nat.not_lt_zero j)⟩ ?_ ?_⟩
    · rintro i σ H2 hi ⟨u, rfl, rfl, hall⟩
      have hi' : i < ys.length := by omega
      have ei : (0 + (i : Int)).toNat = i := by omega
      have hv := at_int (ns := xs) (i := 0 + (i : Int)) (by omega) (by omega)
      have hw := at_int (ns := ys) (i := 0 + (i : Int)) (by omega) (by omega)
      rw [ei] at hv hw
      refine ⟨_, rfl, _, rfl, p, _, _, _, rfl, rfl, SqL.of hp, hv, _, rfl, _, rfl, iteF ?_⟩
      refine ⟨_, rfl, _, rfl, p, _, _, _, rfl, rfl, SqL.of hp, hv, _, rfl, _, rfl, p2, _, _, _, rfl, rfl, hq, hw, rfl, _, rfl, ?_⟩
      by_cases he : xs.getD i 0 = ys.getD i 0
      · refine iteNS (by rw [he]) ?_
        refine ⟨_, rfl, rfl, fun j hj => ?_⟩
        by_cases z : j = i
        · rw [z]; exact he
        · exact hall j (by omega)
      · refine iteB (by simpa using he) ?_
        have : decide (xs = ys) = false := decide_eq_false fun z => he (by rw [z])
        rw [this] at q
        exact q
    · rintro σ H2 ⟨u, rfl, rfl, hall⟩
      have : decide (xs = ys) = true := decide_eq_true (ext_getD hl fun j hj => hall j (by omega))
      rw [this] at q
      exact q
  · have z : ¬ V.int (((xs.map V.int).length : Nat) : Int) = V.int (((ys.map V.int).length : Nat) : Int) := fun z => by injection z with z; omega
    refine iteB (by simpa using z) ?_
    have : decide (xs = ys) = false := decide_eq_false fun z => hl (by rw [z])
    rw [this] at q
    exact q


theorem ok_check_placesX (T : Tx K mg f_row_of d_row_of f_pairs d_pairs f_check_places d_check_places f_ldrawn d_ldrawn f_lwhole d_lwhole f_lrow d_lrow f_lplaces_by d_lplaces_by f_lmarks d_lmarks f_lgood d_lgood c_BeadError c_TooFew c_NoBeads) : FnOk P w K mg base (CX1 P w) 1 f_check_places d_check_places ["places"] (spCheckX K c_NoBeads) := by
  refine L3.Fun.okX T.F_check_places sc_check_places (fun vs H Q E h => ?_) (fun cdv A outer s H vs Q E hr h => ?_)
  · obtain ⟨a, ns, rfl, _⟩ := h
    rfl
  obtain ⟨a, ns, rfl, hS, hE, q⟩ := h
  refine ⟨_, (pss_cons (ps_set (i := 1) sc_check_places.nd rfl (Or.inl rfl) (pe_un un_neg pe_int))
      (pss_one (ps_for PassesOwn.leaving rfl (pi_list (pv 0)) (pg_name (i := 2) sc_check_places.nd rfl (Or.inl rfl)) (pss_cons (ps_if (pt_cmpR op_le (pv 2) (pv 1) (nomark _)) (pss_one (ps_raise rfl T.C_NoBeads T.x_NoBeads (pa_cons pe_str pa_nil))) pss_nil)
      (pss_one (ps_set (i := 1) sc_check_places.nd rfl (Or.inl rfl) (pv 2))))))), ?_⟩
  have hl : (ns.map V.int).length = ns.length := List.length_map _
  refine ⟨_, rfl, ?_⟩
  refine ⟨_, rfl, a, rfl, ⟨_, hS⟩, for_list (K := K) (a := a) (xs := ns.map V.int) (fun i σ H2 => ∃ u : Option V, σ = [some (.ref a), some (.int (if i = 0 then (-1 : Int) else ns.getD (i - 1) 0)), u] ∧ H2 = H ∧ ∀ j : Nat, j < i → (if j = 0 then (-1 : Int) else ns.getD (j - 1) 0) < ns.getD j 0)
    ⟨none, rfl, rfl, fun j hj => absurd hj (Nat.not_lt_zero j)⟩ (fun i σ H2 _ ⟨_, _, e, _⟩ => by rw [e]; exact hS) ?_ ?_⟩
  · rintro i y σ H2 hi ⟨u, rfl, rfl, hup⟩
    have hil : i < (ns.map V.int).length := (List.getElem?_eq_some_iff.mp hi).1
    rw [hl] at hil
    obtain rfl : y = V.int (ns.getD i 0) := by
      rw [List.getElem?_map, getD_of hil] at hi
      exact (Option.some.inj hi).symm
    refine ⟨_, rfl, _, rfl, _, _, rfl, rfl, _, rfl, ?_⟩
    refine ite2 (fun c => ?_) (fun c => ?_)
    · have c' := of_decide_eq_true c
      exact ⟨(by show 1 ≤ sizeLine; decide), hE fun hrise => by have := hrise i hil; omega⟩
    have c' : ¬ ns.getD i 0 ≤ (if i = 0 then (-1 : Int) else ns.getD (i - 1) 0) := fun z => c (decide_eq_true z)
    refine ⟨_, rfl, some (.int (ns.getD i 0)), ?_, rfl, fun j hj => ?_⟩
    · have e : (if i + 1 = 0 then (-1 : Int) else ns.getD (i + 1 - 1) 0) = ns.getD i 0 := by rw [if_neg (by omega)]; rfl
      rw [e]
      rfl
    · by_cases z : j = i
      · rw [z]; omega
      · exact hup j (by omega)
  · rintro σ H2 ⟨u, rfl, rfl, hup⟩
    rw [hl] at hup
    exact q hup

theorem ok_row_ofX (T : Tx K mg f_row_of d_row_of f_pairs d_pairs f_check_places d_check_places f_ldrawn d_ldrawn f_lwhole d_lwhole f_lrow d_lrow f_lplaces_by d_lplaces_by f_lmarks d_lmarks f_lgood d_lgood c_BeadError c_TooFew c_NoBeads) : FnOk P w K mg base (CX1 P w) 2 f_row_of d_row_of ["places"] (spRowOfX K c_NoBeads) := by
  have G_check_places : FnOk P w K mg base (CX1 P w) 1 f_check_places d_check_places ["places"] (spCheckX K c_NoBeads) := ok_check_placesX T
  refine L3.Fun.okX T.F_row_of sc_row_of (fun vs H Q E h => ?_) (fun cdv A outer s H vs Q E hr h => ?_)
  · obtain ⟨a, ns, rfl, _⟩ := h
    rfl
  obtain ⟨a, ns, rfl, hS, hlen, hE, q⟩ := h
  refine ⟨_, (pss_cons (ps_expr (pe_call G_check_places (hr.mono (by decide)) rfl T.m_check_places T.F_check_places.kp T.b_check_places .nil pass1 (pa_cons (pv 0) pa_nil)))
      (pss_cons (ps_setC (i := 1) ["places", "gaps"] ["lower", "place"] [none, none] (defScope s_row_of) rfl sc_row_of.nd rfl (Or.inl rfl) (pi_enum rfl T.z_enumerate (pa_cons (pv 0) pa_nil)) (fun _ _ _ _ => (pg_tupK (K := K) (n := 2) rfl rfl (pgs_cons (pg_name (i := 0) (show List.Nodup (["lower", "place"] : List Str) by decide +kernel) rfl (Or.inl rfl) (Or.inr rfl)) (pgs_cons (pg_name (i := 1) (show List.Nodup (["lower", "place"] : List Str) by decide +kernel) rfl (Or.inl rfl) (Or.inr rfl)) pgs_nil)))) (fun _ _ _ _ => pif_nil) (fun _ _ _ _ => (pe_op op_sub (pv 1) (pv 0))))
      (pss_one (ps_ret (pe_comp ["places", "gaps"] ["gap"] [none] (defScope s_row_of) rfl (pi_rev rfl T.z_reversed (pa_cons (pv 1) pa_nil)) (fun _ _ _ _ => (pg_name (i := 0) (show List.Nodup (["gap"] : List Str) by decide +kernel) rfl (Or.inl rfl) (Or.inr rfl))) (fun _ _ _ _ => (pif_one (pt_cmpR op_gt (pv 0) pe_int (nomark _)))) (fun _ _ _ _ => (pv 0))))))), ?_⟩
  have hl : (ns.map V.int).length = ns.length := List.length_map _
  refine ⟨_, rfl, a, ns, rfl, hS, hE, fun hrise => ?_⟩
  have q := q hrise
  refine ⟨_, rfl, a, rfl, ⟨_, hS⟩, fun D hD => comp_enum (K := K) (a := a) (xs := ns.map V.int)
    (fun i ys σ H2 => ∃ u v : Option V, σ = [u, v] ∧ Same H H2 ∧ H2 D = some (.lst ys) ∧ ys = ((List.range i).map fun (k : Nat) => ns.getD k 0 - (k : Int)).map V.int)
    ⟨none, none, rfl, same_new hD _, upd_same, rfl⟩ (fun i ys σ H2 _ ⟨_, _, _, z, _⟩ => z.seq hS) ?_ ?_⟩
  · rintro i y ys σ H2 t hi ⟨u, v, rfl, s5, hD5, rfl⟩ ht
    have hil : i < (ns.map V.int).length := (List.getElem?_eq_some_iff.mp hi).1
    rw [hl] at hil
    obtain rfl : y = V.int (ns.getD i 0) := by
      rw [List.getElem?_map, getD_of hil] at hi
      exact (Option.some.inj hi).symm
    have st := same_new ht (.tup [.int (i : Int), .int (ns.getD i 0)])
    refine ⟨t, _, rfl, SqT.of upd_same, rfl, _, _, rfl, _, _, rfl, rfl, ?_⟩
    refine ⟨_, rfl, _, rfl, _, _, rfl, rfl, st _ _ hD5, ?_, _, _, rfl, ?_, upd_same, ?_⟩
    · rw [List.length_map, List.length_map, List.length_range]
      exact small1000 (by omega)
    · exact same_upd (s5.trans st) hD
    · rw [List.range_succ, List.map_append, List.map_append]
      rfl
  · rintro ys σ H2 ⟨u, v, rfl, s5, hD5, rfl⟩
    have hgl : (gapsOf ns).length = ns.length := gapsOf_len ns
    have hD6 : H2 D = some (.lst ((gapsOf ns).map V.int)) := by rw [hl] at hD5; exact hD5
    have hgl2 : ((gapsOf ns).map V.int).length = ns.length := by rw [List.length_map]; exact hgl
    refine ⟨_, rfl, D, _, rfl, SqL.of hD6, fun D2 hD2 => comp_rev (K := K) (a := D) (xs := (gapsOf ns).map V.int) rfl
      (fun i ys σ H3 => ∃ u : Option V, σ = [u] ∧ Same H2 H3 ∧ H3 D2 = some (.lst ys) ∧ ys = (((gapsOf ns).reverse.take i).filter fun g => decide (0 < g)).map V.int)
      ⟨none, rfl, same_new hD2 _, upd_same, rfl⟩ (fun i ys σ H3 _ ⟨_, _, z, _⟩ => SqL.of (z _ _ hD6)) ?_ ?_⟩
    · rintro i x ys σ H3 hi ⟨u, rfl, s6, hD7, rfl⟩
      rw [← List.map_reverse] at hi
      have hil : i < ((gapsOf ns).reverse.map V.int).length := (List.getElem?_eq_some_iff.mp hi).1
      have hil2 : i < (gapsOf ns).reverse.length := by rw [List.length_map] at hil; exact hil
      obtain rfl : x = V.int ((gapsOf ns).reverse.getD i 0) := by
        rw [List.getElem?_map, getD_of hil2] at hi
        exact (Option.some.inj hi).symm
      have step := take_succ_filter (fun g => decide (0 < g)) (gapsOf ns).reverse i ((gapsOf ns).reverse.getD i 0) (getD_of hil2)
      refine ⟨_, rfl, _, _, rfl, rfl, _, rfl, ?_⟩
      refine ite2 (fun c => ?_) (fun c => ?_)
      · refine ⟨_, rfl, hD7, ?_, _, rfl, same_upd s6 hD2, upd_same, ?_⟩
        · have z := List.length_filter_le (fun g : Int => decide (0 < g)) ((gapsOf ns).reverse.take i)
          rw [List.length_map]
          rw [List.length_take, List.length_reverse] at z
          exact small1000 (by omega)
        · rw [step, if_pos c, List.map_append]
          rfl
      · refine ⟨_, rfl, s6, hD7, ?_⟩
        rw [step, if_neg c, List.append_nil]
    · rintro ys σ H3 ⟨u, rfl, s6, hD7, rfl⟩
      refine q D2 H3 (s5.trans s6) (s5.free hD2) ?_
      have e : (gapsOf ns).reverse.take ((gapsOf ns).map V.int).length = (gapsOf ns).reverse := List.take_of_length_le (by rw [List.length_reverse, List.length_map]; exact Nat.le_refl _)
      rw [e] at hD7
      exact hD7
theorem ok_row_of (T : Tx K mg f_row_of d_row_of f_pairs d_pairs f_check_places d_check_places f_ldrawn d_ldrawn f_lwhole d_lwhole f_lrow d_lrow f_lplaces_by d_lplaces_by f_lmarks d_lmarks f_lgood d_lgood c_BeadError c_TooFew c_NoBeads) : FnOk P w K mg base CX0 2 f_row_of d_row_of ["places"] (spRowOf K) :=
  L3.FnOk.to0 (ok_row_ofX T) fun vs H Q E ⟨a, ns, e, hS, hrise, hl, q⟩ => ⟨a, ns, e, hS, hl, fun z => absurd hrise z, fun _ => q⟩

theorem ok_pairsX (T : Tx K mg f_row_of d_row_of f_pairs d_pairs f_check_places d_check_places f_ldrawn d_ldrawn f_lwhole d_lwhole f_lrow d_lrow f_lplaces_by d_lplaces_by f_lmarks d_lmarks f_lgood d_lgood c_BeadError c_TooFew c_NoBeads) : FnOk P w K mg base (CX1 P w) 2 f_pairs d_pairs ["places"] (spPairsX K c_NoBeads) := by
  have G_check_places : FnOk P w K mg base (CX1 P w) 1 f_check_places d_check_places ["places"] (spCheckX K c_NoBeads) := ok_check_placesX T
  refine L3.Fun.okX T.F_pairs sc_pairs (fun vs H Q E h => ?_) (fun cdv A outer s H vs Q E hr h => ?_)
  · obtain ⟨a, ns, rfl, _⟩ := h
    rfl
  obtain ⟨a, ns, rfl, hS, hn2, hn1, hE, q⟩ := h
  refine ⟨_, (pss_cons (ps_expr (pe_call G_check_places (hr.mono (by decide)) rfl T.m_check_places T.F_check_places.kp T.b_check_places .nil pass1 (pa_cons (pv 0) pa_nil)))
      (pss_cons (ps_set (i := 1) sc_pairs.nd rfl (Or.inl rfl) (pe_lst pa_nil))
      (pss_cons (ps_set (i := 2) sc_pairs.nd rfl (Or.inl rfl) (pe_lst pa_nil))
      (pss_cons (ps_set (i := 3) sc_pairs.nd rfl (Or.inl rfl) pe_int)
      (pss_cons (ps_for PassesOwn.leaving rfl (pi_list (pv 0)) (pg_name (i := 4) sc_pairs.nd rfl (Or.inr rfl)) (pss_cons (ps_expr (pe_bm PySem.F.plainAttrs_list PySem.F.slot_list_extend PySem.F.type_list_extend mt_extend (pv 2) (pa_cons (pe_listRng rfl rfl T.z_list rfl T.z_range (pa_cons (pv 3) (pa_cons (pv 4) pa_nil))) pa_nil)))
      (pss_cons (ps_expr (pe_bm PySem.F.plainAttrs_list PySem.F.slot_list_extend PySem.F.type_list_extend mt_extend (pv 1) (pa_cons (pe_comp ["places", "found", "free", "unseen", "bead"] ["place", "bead"] [none, some 4] (defScope s_pairs) rfl (pi_list (pv 2)) (fun _ _ _ _ => (pg_name (i := 0) (show List.Nodup (["place", "bead"] : List Str) by decide +kernel) rfl (Or.inl rfl) (Or.inr rfl))) (fun _ _ _ _ => pif_nil) (fun _ _ _ _ => (pe_tup (pa_cons (pv 1) (pa_cons (pv 0) pa_nil))))) pa_nil)))
      (pss_one (ps_set (i := 3) sc_pairs.nd rfl (Or.inl rfl) (pe_op op_add (pv 4) pe_int))))))
      (pss_one (ps_ret (pv 1)))))))), ?_⟩
  have hl : (ns.map V.int).length = ns.length := List.length_map _
  have hs : sizeLine = 16777216 := sizeLine_eq
  refine ⟨_, rfl, a, ns, rfl, hS, hE, fun hrise => ?_⟩
  have q := q hrise
  refine ⟨(by show 0 ≤ sizeLine; decide), fun p hp => ?_⟩
  have s1 : Same H (upd H p (.lst [])) := same_new hp _
  refine ⟨(by show 0 ≤ sizeLine; decide), fun f hf => ?_⟩
  have s2 := s1.trans (same_new hf (.lst []))
  have hfH : H f = none := s1.free hf
  have hpf : p ≠ f := ne_of_none (upd_same (H := H) (a := p) (o := .lst [])) hf
  refine ⟨_, rfl, a, rfl, ⟨_, s2.seq hS⟩, for_list (K := K) (a := a) (xs := ns.map V.int)
    (fun i σ H2 => ∃ (u : Option V) (ps : List Addr), σ = [some (.ref a), some (.ref p), some (.ref f), some (.int (stP (ns.take i)).1), u] ∧ Same H H2 ∧ H2 f = some (.lst ((stP (ns.take i)).2.1.map V.int)) ∧ PT H2 p ps (stP (ns.take i)).2.2 ∧
      (stP (ns.take i)).1 = (if i = 0 then 0 else ns.getD (i - 1) 0 + 1) ∧ ((stP (ns.take i)).2.1.length : Int) ≤ (stP (ns.take i)).1 ∧ (stP (ns.take i)).2.2.length ≤ i * 1001)
    ⟨none, [], rfl, s2, upd_same, ⟨rfl, by rw [upd_ne hpf]; exact upd_same, fun k hk => absurd hk (Nat.not_lt_zero k)⟩, rfl, Int.le_refl 0, Nat.zero_le _⟩ (fun i σ H2 _ ⟨_, _, _, z, _⟩ => z.seq hS) ?_ ?_⟩
  · rintro i y σ H2 hi ⟨u, ps, rfl, s3, hf3, P3, hu3, hfl3, hpl3⟩
    have hil : i < (ns.map V.int).length := (List.getElem?_eq_some_iff.mp hi).1
    rw [hl] at hil
    obtain rfl : y = V.int (ns.getD i 0) := by
      rw [List.getElem?_map, getD_of hil] at hi
      exact (Option.some.inj hi).symm
    have hb0 := rise_pos hrise i hil
    have hb1 : ns.getD i 0 ≤ 1000 := hn1 _ (by rw [← getD_elem hil]; exact List.getElem_mem hil)
    have hlt := hrise i hil
    have hub : (stP (ns.take i)).1 ≤ ns.getD i 0 ∧ 0 ≤ (stP (ns.take i)).1 := by
      rw [hu3]
      by_cases z : i = 0
      · rw [if_pos z] at hlt ⊢; omega
      · rw [if_neg z] at hlt ⊢
        have := rise_pos hrise (i - 1) (by omega)
        omega
    have hst := stP_take hil
    obtain ⟨uu, ff, pp⟩ : ∃ x y z, x = (stP (ns.take i)).1 ∧ y = (stP (ns.take i)).2.1 ∧ z = (stP (ns.take i)).2.2 := ⟨_, _, _, rfl, rfl, rfl⟩
    obtain ⟨F', hF'⟩ : ∃ F' : List Int, F' = (stP (ns.take i)).2.1 ++ seqI (stP (ns.take i)).1 (ns.getD i 0 - (stP (ns.take i)).1).toNat := ⟨_, rfl⟩
    have hFl : F'.length ≤ 1000 := by rw [hF', List.length_append, seqI_length]; omega
    have hFu : (F'.length : Int) ≤ ns.getD i 0 := by rw [hF', List.length_append, seqI_length]; omega
    refine ⟨_, rfl, .inl ⟨rfl, _, SqL.of hf3⟩, _, rfl, _, rfl, _, _, rfl, ⟨by omega, by omega, by omega, by omega⟩, fun l hll => ?_⟩
    have s4 := same_new hll (.lst ((seqI (stP (ns.take i)).1 (ns.getD i 0 - (stP (ns.take i)).1).toNat).map V.int))
    refine ⟨f, l, _, _, rfl, rfl, s4 _ _ hf3, upd_same, by rw [List.length_map, List.length_map, seqI_length]; omega, ?_⟩
    have eF : (stP (ns.take i)).2.1.map V.int ++ (seqI (stP (ns.take i)).1 (ns.getD i 0 - (stP (ns.take i)).1).toNat).map V.int = F'.map V.int := by rw [hF', List.map_append]
    rw [eF]
    obtain ⟨B, hB⟩ : ∃ B, B = upd (upd H2 l (.lst ((seqI (stP (ns.take i)).1 (ns.getD i 0 - (stP (ns.take i)).1).toNat).map V.int))) f (.lst (F'.map V.int)) := ⟨_, rfl⟩
    rw [← hB]
    have sB : Same H B := by rw [hB]; exact same_upd (s3.trans s4) hfH
    have hBf : B f = some (.lst (F'.map V.int)) := by rw [hB]; exact upd_same
    have PB : PT B p ps (stP (ns.take i)).2.2 := by
      have P4 := P3.same s4
      refine ⟨P4.len, ?_, fun k hk => ?_⟩
      · rw [hB, upd_ne hpf]; exact P4.at'
      · have := P4.each k hk
        rw [hB, upd_ne (ne_of this (s4 _ _ hf3) (by intro z; cases z))]
        exact this
    have hFm : (F'.map V.int).length = F'.length := List.length_map _
    refine ⟨_, rfl, .inl ⟨rfl, _, SqL.of PB.at'⟩, _, rfl, f, rfl, ⟨_, SqL.of hBf⟩, fun D hD => comp_list (K := K) (a := f) (xs := F'.map V.int)
      (fun j ys σ H3 => ∃ (u : Option V) (qs : List Addr), σ = [u, some (.int (ns.getD i 0))] ∧ Same B H3 ∧ H3 D = some (.lst ys) ∧ ys = qs.map V.ref ∧ qs.length = j ∧ ∀ k : Nat, k < j → H3 (qs.getD k 0) = some (.tup [.int (ns.getD i 0), .int (F'.getD k 0)]))
      ⟨none, [], rfl, same_new hD _, upd_same, rfl, rfl, fun k hk => absurd hk (Nat.not_lt_zero k)⟩ (fun j ys σ H3 _ ⟨_, _, _, z, _⟩ => SqL.of (z _ _ hBf)) ?_ ?_⟩
    · rintro j y ys σ H3 hj ⟨u, qs, rfl, s5, hD5, rfl, hql, hqe⟩
      have hjl : j < (F'.map V.int).length := (List.getElem?_eq_some_iff.mp hj).1
      rw [hFm] at hjl
      obtain rfl : y = V.int (F'.getD j 0) := by
        rw [List.getElem?_map, getD_of hjl] at hj
        exact (Option.some.inj hj).symm
      refine ⟨_, rfl, _, rfl, (by show 2 ≤ sizeLine; decide), fun t ht => ?_⟩
      have st := same_new ht (.tup [.int (ns.getD i 0), .int (F'.getD j 0)])
      refine ⟨st _ _ hD5, by rw [List.length_map]; exact small1000 (by omega), _, qs ++ [t], rfl, same_upd (s5.trans st) hD, upd_same, by rw [List.map_append]; rfl, by rw [List.length_append, hql]; rfl, fun k hk => ?_⟩
      by_cases z : k = j
      · subst z
        have e : (qs ++ [t]).getD k 0 = t := by rw [← hql]; exact getD_snoc_last
        rw [e, upd_ne (ne_of_none hD5 ht).symm]
        exact upd_same
      · have hk' : k < qs.length := by omega
        have h1 := st _ _ (hqe k (by omega))
        rw [getD_snoc_left hk', upd_ne (ne_of h1 (st _ _ hD5) (by intro z; cases z))]
        exact h1
    · rintro ys σ H3 ⟨u, qs, rfl, s5, hD5, rfl, hql, hqe⟩
      rw [hFm] at hql hqe
      have P5 := PB.same s5
      refine ⟨p, D, _, _, rfl, rfl, P5.at', hD5, ?_, ?_⟩
      · rw [List.length_map, List.length_map, P5.len]; omega
      refine ⟨_, rfl, _, _, rfl, rfl, ?_⟩
      have est : stP (ns.take (i + 1)) = (ns.getD i 0 + 1, F', (stP (ns.take i)).2.2 ++ F'.map fun g => (ns.getD i 0, g)) := by
        rw [hst, hF']; rfl
      rw [est]
      have hlen2 : (stP (ns.take i)).2.2.length = ps.length := P5.len.symm
      refine ⟨_, ps ++ qs, rfl, same_upd (sB.trans s5) hp, ?_, ⟨?_, ?_, fun k hk => ?_⟩, ?_, ?_, ?_⟩
      · rw [upd_ne (Ne.symm hpf)]; exact s5 _ _ hBf
      · rw [List.length_append, List.length_append, List.length_map, P5.len, hql]
      · rw [upd_same, List.map_append]
      · have hk2 : k < ps.length + F'.length := by
          rw [List.length_append, List.length_map] at hk
          omega
        by_cases z : k < ps.length
        · have h1 := P5.each k (by omega)
          have e1 : (ps ++ qs).getD k 0 = ps.getD k 0 := by rw [List.getD_eq_getElem?_getD, List.getD_eq_getElem?_getD, List.getElem?_append_left z]
          have e2 : ((stP (ns.take i)).2.2 ++ F'.map fun g => (ns.getD i 0, g)).getD k (0, 0) = (stP (ns.take i)).2.2.getD k (0, 0) := by
            simp only [List.getD_eq_getElem?_getD]
            rw [List.getElem?_append_left (by omega)]
          rw [e1, e2, upd_ne (ne_of h1 P5.at' (by intro z; cases z))]
          exact h1
        · have h1 := hqe (k - ps.length) (by omega)
          have e1 : (ps ++ qs).getD k 0 = qs.getD (k - ps.length) 0 := by rw [List.getD_eq_getElem?_getD, List.getD_eq_getElem?_getD, List.getElem?_append_right (by omega)]
          have e2 : ((stP (ns.take i)).2.2 ++ F'.map fun g => (ns.getD i 0, g)).getD k (0, 0) = (ns.getD i 0, F'.getD (k - ps.length) 0) := by
            rw [List.getD_eq_getElem?_getD, List.getElem?_append_right (by omega), hlen2, List.getElem?_map, getD_of (by omega)]
            rfl
          rw [e1, e2, upd_ne (ne_of h1 P5.at' (by intro z; cases z))]
          exact h1
      · rw [if_neg (by omega)]
        rfl
      · show (F'.length : Int) ≤ ns.getD i 0 + 1
        omega
      · show ((stP (ns.take i)).2.2 ++ F'.map fun g => (ns.getD i 0, g)).length ≤ (i + 1) * 1001
        rw [List.length_append, List.length_map]
        omega
  · rintro σ H2 ⟨u, ps, rfl, s3, hf3, P3, _⟩
    rw [hl, List.take_length] at P3
    exact ⟨_, rfl, q p ps H2 s3 hp P3⟩
theorem ok_pairs (T : Tx K mg f_row_of d_row_of f_pairs d_pairs f_check_places d_check_places f_ldrawn d_ldrawn f_lwhole d_lwhole f_lrow d_lrow f_lplaces_by d_lplaces_by f_lmarks d_lmarks f_lgood d_lgood c_BeadError c_TooFew c_NoBeads) : FnOk P w K mg base CX0 2 f_pairs d_pairs ["places"] (spPairs K) :=
  L3.FnOk.to0 (ok_pairsX T) fun vs H Q E ⟨a, ns, e, hS, hrise, h1, h2, q⟩ => ⟨a, ns, e, hS, h1, h2, fun z => absurd hrise z, fun _ => q⟩

theorem erase_map : ∀ (l : List Int) (k : Nat), (l.map V.int).eraseIdx k = (l.eraseIdx k).map V.int
  | [], _ => rfl
  | _ :: _, 0 => rfl
  | x :: l, k + 1 => by
    show V.int x :: (l.map V.int).eraseIdx k = V.int x :: (l.eraseIdx k).map V.int
    rw [erase_map l k]
theorem ok_lplaces_by (T : Tx K mg f_row_of d_row_of f_pairs d_pairs f_check_places d_check_places f_ldrawn d_ldrawn f_lwhole d_lwhole f_lrow d_lrow f_lplaces_by d_lplaces_by f_lmarks d_lmarks f_lgood d_lgood c_BeadError c_TooFew c_NoBeads) : FnOk P w K mg base CX0 2 f_lplaces_by d_lplaces_by ["script"] (spPlacesBy K) := by
  have G_ldrawn : FnOk P w K mg base CX0 1 f_ldrawn d_ldrawn ["script", "k", "many"] (spDrawn K) := ok_ldrawn T
  refine T.F_lplaces_by.ok sc_lplaces_by (fun vs H Q E h => ?_) (fun cdv A outer s H vs Q E hr h => ?_)
  · obtain ⟨a, ns, rfl, _⟩ := h
    rfl
  obtain ⟨a, ns, rfl, hS, h63, q⟩ := h
  have hs : sizeLine = 16777216 := sizeLine_eq
  refine ⟨_, (pss_cons (ps_set (i := 1) sc_lplaces_by.nd rfl (Or.inl rfl) (pe_call G_ldrawn (hr.mono (by decide)) rfl T.m_ldrawn T.F_ldrawn.kp T.b_ldrawn .nil pass0 (pa_cons (pv 0) (pa_cons pe_int (pa_cons pe_int pa_nil)))))
      (pss_cons (ps_set (i := 2) sc_lplaces_by.nd rfl (Or.inr rfl) pe_int)
      (pss_cons (ps_mid (ps_if (pt_cmpR op_eq (pe_call G_ldrawn (hr.mono (by decide)) rfl T.m_ldrawn T.F_ldrawn.kp T.b_ldrawn .nil pass0 (pa_cons (pv 0) (pa_cons pe_int (pa_cons pe_int pa_nil)))) pe_int (nomark _)) (pss_cons (ps_set (i := 1) sc_lplaces_by.nd rfl (Or.inl rfl) (pe_call G_ldrawn (hr.mono (by decide)) rfl T.m_ldrawn T.F_ldrawn.kp T.b_ldrawn .nil pass0 (pa_cons (pv 0) (pa_cons pe_int (pa_cons pe_int pa_nil)))))
      (pss_one (ps_set (i := 2) sc_lplaces_by.nd rfl (Or.inr rfl) pe_int))) pss_nil))
      (pss_cons (ps_set (i := 3) sc_lplaces_by.nd rfl (Or.inl rfl) (pe_sortedSet rfl rfl T.z_sorted rfl T.z_set (pa_cons (pe_comp ["script", "many", "bound", "places", "way", "at", "spot"] ["k", "script", "bound"] [none, some 0, some 2] (defScope s_lplaces_by) rfl (pi_range1 rfl T.z_range (pa_cons (pv 1) pa_nil)) (fun _ _ _ _ => (pg_name (i := 0) (show List.Nodup (["k", "script", "bound"] : List Str) by decide +kernel) rfl (Or.inl rfl) (Or.inr rfl))) (fun _ _ _ _ => pif_nil) (fun _ _ _ _ => (pe_call G_ldrawn (hr.mono (by decide)) rfl T.m_ldrawn T.F_ldrawn.kp T.b_ldrawn .nil pass0 (pa_cons (pv 1) (pa_cons (pe_op op_add pe_int (pv 0)) (pa_cons (pv 2) pa_nil)))))) pa_nil)))
      (pss_cons (ps_set (i := 4) sc_lplaces_by.nd rfl (Or.inl rfl) (pe_call G_ldrawn (hr.mono (by decide)) rfl T.m_ldrawn T.F_ldrawn.kp T.b_ldrawn .nil pass0 (pa_cons (pv 0) (pa_cons pe_int (pa_cons pe_int pa_nil)))))
      (pss_cons (ps_set (i := 5) sc_lplaces_by.nd rfl (Or.inl rfl) (pe_call G_ldrawn (hr.mono (by decide)) rfl T.m_ldrawn T.F_ldrawn.kp T.b_ldrawn .nil pass0 (pa_cons (pv 0) (pa_cons pe_int (pa_cons (pe_op op_add (pe_callB call_len_seq rfl T.z_len PySem.boot_len (pa_cons (pv 3) pa_nil)) pe_int) pa_nil)))))
      (pss_cons (ps_mid (ps_if (PW.pt (pw_and (pt_cmpR op_eq (pv 4) pe_int (nomark _)) (pw_and (pt_cmpR op_lt (pv 5) (pe_callB call_len_seq rfl T.z_len PySem.boot_len (pa_cons (pv 3) pa_nil)) (nomark _)) (pw_and1 (pt_cmpR op_lt (pe_callB call_len_seq rfl T.z_len PySem.boot_len (pa_cons (pv 3) pa_nil)) pe_int (nomark _)))))) (pss_one (ps_expr (pe_bm PySem.F.plainAttrs_list PySem.F.slot_list_insert PySem.F.type_list_insert mt_insert (pv 3) (pa_cons (pv 5) (pa_cons (pe_ix ix_list (pv 3) (pv 5) (fun _ _ => rfl)) pa_nil))))) pss_nil))
      (pss_cons (ps_mid (ps_if (PW.pt (pw_and (pt_cmpR op_eq (pv 4) pe_int (nomark _)) (pw_and1 (pt_cmpR op_lt (pe_op op_add (pv 5) pe_int) (pe_callB call_len_seq rfl T.z_len PySem.boot_len (pa_cons (pv 3) pa_nil)) (nomark _))))) (pss_one (ps_expr (pe_bm PySem.F.plainAttrs_list PySem.F.slot_list_insert PySem.F.type_list_insert mt_insert (pv 3) (pa_cons (pv 5) (pa_cons (pe_bm PySem.F.plainAttrs_list PySem.F.slot_list_pop PySem.F.type_list_pop mt_popAt (pv 3) (pa_cons (pe_op op_add (pv 5) pe_int) pa_nil)) pa_nil))))) pss_nil))
      (pss_cons (ps_mid (ps_if (PW.pt (pw_and (pt_cmpR op_eq (pv 4) pe_int (nomark _)) (pw_and1 (pt_cmpR op_gt (pe_callB call_len_seq rfl T.z_len PySem.boot_len (pa_cons (pv 3) pa_nil)) pe_int (nomark _))))) (pss_cons (ps_set (i := 6) sc_lplaces_by.nd rfl (Or.inl rfl) (pe_op op_mul (pe_call G_ldrawn (hr.mono (by decide)) rfl T.m_ldrawn T.F_ldrawn.kp T.b_ldrawn .nil pass0 (pa_cons (pv 0) (pa_cons pe_int (pa_cons pe_int pa_nil)))) (pe_op op_sub (pe_callB call_len_seq rfl T.z_len PySem.boot_len (pa_cons (pv 3) pa_nil)) pe_int)))
      (pss_one (ps_asg (pe_op op_sub (pe_un un_neg pe_int) (pe_op op_mul (pe_call G_ldrawn (hr.mono (by decide)) rfl T.m_ldrawn T.F_ldrawn.kp T.b_ldrawn .nil pass0 (pa_cons (pv 0) (pa_cons pe_int (pa_cons pe_int pa_nil)))) (pe_call G_ldrawn (hr.mono (by decide)) rfl T.m_ldrawn T.F_ldrawn.kp T.b_ldrawn .nil pass0 (pa_cons (pv 0) (pa_cons pe_int (pa_cons (pe_op op_pow pe_int pe_int) pa_nil)))))) (pg_sub (pv 3) (pv 6) set_list)))) pss_nil))
      (pss_one (ps_ret (pv 3)))))))))))), ?_⟩
  refine ⟨_, rfl, a, ns, 0, 13, rfl, hS, h63, by decide, by decide, by decide, fun m0 m00 m01 => ?_⟩
  refine ⟨fun σ H' => ∃ m b : Int, 0 ≤ m ∧ m ≤ 80 ∧ 0 < b ∧ b ≤ 201 ∧ σ = [some (.ref a), some (.int m), some (.int b), none, none, none, none] ∧ H = H', ?_, ?_⟩
  · refine ⟨_, rfl, a, ns, 1, 4, rfl, hS, h63, by decide, by decide, by decide, fun x x0 x1 => ⟨rfl, _, rfl, ite2 (fun c => ?_) (fun c => ?_)⟩⟩
    · exact ⟨_, rfl, a, ns, 2, 81, rfl, hS, h63, by decide, by decide, by decide, fun y y0 y1 => ⟨y, 201, by omega, by omega, by omega, by omega, rfl, rfl⟩⟩
    · exact ⟨m0, 31, by omega, by omega, by omega, by omega, rfl, rfl⟩
  rintro σ _ ⟨m, b, hm0, hm1, hb0, hb1, rfl, rfl⟩
  refine ⟨_, rfl, m, rfl, by omega, by omega, fun D hD => comp_range (lo := 0) (n := m.toNat) (fun i ys σ J => ∃ (u : Option V) (ks : List Int), σ = [u, some (.ref a), some (.int b)] ∧ Same H J ∧ J D = some (.lst ys) ∧ ys = ks.map V.int ∧ ks.length = i ∧ ∀ x ∈ ks, x ≤ 200)
    ⟨none, [], rfl, same_new hD _, upd_same, rfl, rfl, fun x hx => by cases hx⟩ ?_ ?_⟩
  · rintro i ys σ J hi ⟨u, ks, rfl, sJ, hJD, rfl, hkl, hk⟩
    refine ⟨_, rfl, _, rfl, _, _, rfl, rfl, _, rfl, a, ns, _, b, rfl, sJ.seq hS, h63, by omega, by omega, hb0, fun d d0 d1 => ⟨hJD, ?_, _, ks ++ [d], rfl, same_upd sJ hD, upd_same, ?_, ?_, ?_⟩⟩
    · rw [List.length_map]; exact small1000 (by omega)
    · rw [List.map_append]; rfl
    · rw [List.length_append, hkl]; rfl
    · intro x hx
      rcases List.mem_append.mp hx with z | z
      · exact hk x z
      · rw [List.mem_singleton.mp z]; omega
  rintro ys σ H1 ⟨u, ks, rfl, s1, hD1, rfl, hkl, hk⟩
  refine ⟨D, ks, rfl, SqL.of hD1, by omega, fun p ms hp hmem hup hle => ?_⟩
  have s2 : Same H (upd H1 p (.lst (ms.map V.int))) := s1.trans (same_new hp _)
  have hpH : H p = none := s1.free hp
  have hS2 := s2.seq hS
  have hml : (ms.map V.int).length = ms.length := List.length_map _
  have h2 : (upd H1 p (.lst (ms.map V.int))) p = some (.lst (ms.map V.int)) := upd_same
  refine ⟨_, rfl, a, ns, 3, 5, rfl, hS2, h63, by decide, by decide, by decide, fun y y0 y1 => ?_⟩
  refine ⟨_, rfl, _, rfl, p, _, rfl, .inl (SqL.of h2), _, _, rfl, rfl, a, ns, 4, _, rfl, hS2, h63, by decide, by decide, by omega, fun at' at0 at1 => ?_⟩
  obtain ⟨B, hB⟩ : ∃ B, B = upd H1 p (.lst (ms.map V.int)) := ⟨_, rfl⟩
  rw [← hB] at s2 h2 ⊢
  clear hB
  have hms : ∀ x ∈ ms, x ≤ 200 := fun x hx => hk x ((hmem x).mp hx)
  have hm80 : ms.length ≤ 80 := by omega
  refine ⟨fun σ H' => ∃ (ms' : List Int), ms'.length ≤ 80 ∧ (∀ x ∈ ms', x ≤ 200) ∧ σ = [some (.ref a), some (.int m), some (.int b), some (.ref p), some (.int y), some (.int at'), none] ∧ Same H H' ∧ H' p = some (.lst (ms'.map V.int)), ?_, ?_⟩
  · refine ⟨_, rfl, rfl, _, rfl, ite2 (fun c => ?_) (fun c => ?_)⟩
    · refine ⟨_, rfl, _, rfl, p, _, rfl, .inl (SqL.of h2), _, _, rfl, rfl, _, rfl, ite2 (fun c2 => ?_) (fun c2 => ?_)⟩
      · have c2' := of_decide_eq_true c2
        refine ⟨_, rfl, p, _, rfl, .inl (SqL.of h2), _, _, rfl, rfl, _, rfl, ite2 (fun c3 => ?_) (fun c3 => ?_)⟩
        · have c3' := of_decide_eq_true c3
          have hv := at_int (ns := ms) (i := at') at0 (by omega)
          have hmv : ms.getD at'.toNat 0 ∈ ms := by
            have hlt : at'.toNat < ms.length := by omega
            rw [List.getD_eq_getElem?_getD, List.getElem?_eq_getElem hlt]; exact List.getElem_mem hlt
          refine ⟨_, rfl, .inl ⟨rfl, _, SqL.of h2⟩, _, rfl, _, rfl, _, rfl, p, _, _, _, rfl, rfl, SqL.of h2, hv, p, _, at', _, rfl, rfl, h2, at0, by omega, by omega, ?_⟩
          refine ⟨ms.take at'.toNat ++ ms.getD at'.toNat 0 :: ms.drop at'.toNat, ?_, ?_, rfl, same_upd s2 hpH, ?_⟩
          · rw [List.length_append, List.length_cons, List.length_take, List.length_drop]; omega
          · intro x hx
            rcases List.mem_append.mp hx with z | z
            · exact hms x (List.mem_of_mem_take z)
            · rcases List.mem_cons.mp z with z | z
              · rw [z]; exact hms _ hmv
              · exact hms x (List.mem_of_mem_drop z)
          · rw [upd_same, List.map_append, List.map_cons, List.map_take, List.map_drop]
        · exact ⟨ms, hm80, hms, rfl, s2, h2⟩
      · exact ⟨ms, hm80, hms, rfl, s2, h2⟩
    · exact ⟨ms, hm80, hms, rfl, s2, h2⟩
  clear hmem hup hle hml
  rintro σ H3 ⟨ms3, hl3, hx3, rfl, s3, h3⟩
  have hml3 : (ms3.map V.int).length = ms3.length := List.length_map _
  refine ⟨fun σ H' => ∃ (ms' : List Int), ms'.length ≤ 80 ∧ (∀ x ∈ ms', x ≤ 200) ∧ σ = [some (.ref a), some (.int m), some (.int b), some (.ref p), some (.int y), some (.int at'), none] ∧ Same H H' ∧ H' p = some (.lst (ms'.map V.int)), ?_, ?_⟩
  · refine ⟨_, rfl, rfl, _, rfl, ite2 (fun c => ?_) (fun c => ?_)⟩
    · refine ⟨_, rfl, _, _, rfl, rfl, _, rfl, p, _, rfl, .inl (SqL.of h3), _, _, rfl, rfl, _, rfl, ite2 (fun c2 => ?_) (fun c2 => ?_)⟩
      · have c2' := of_decide_eq_true c2
        have hlt : (at' + 1).toNat < ms3.length := by omega
        have hy : (ms3.map V.int)[(at' + 1).toNat]? = some (.int (ms3.getD (at' + 1).toNat 0)) := by rw [List.getElem?_map, getD_of hlt]; rfl
        have hmv : ms3.getD (at' + 1).toNat 0 ∈ ms3 := by rw [List.getD_eq_getElem?_getD, List.getElem?_eq_getElem hlt]; exact List.getElem_mem hlt
        have ee : (ms3.map V.int).eraseIdx (at' + 1).toNat = (ms3.eraseIdx (at' + 1).toNat).map V.int := erase_map ms3 _
        have hel : (ms3.eraseIdx (at' + 1).toNat).length = ms3.length - 1 := List.length_eraseIdx_of_lt hlt
        refine ⟨_, rfl, .inl ⟨rfl, _, SqL.of h3⟩, _, rfl, _, rfl, .inl ⟨rfl, _, SqL.of h3⟩, _, rfl, _, _, rfl, rfl, p, _, at' + 1, (at' + 1).toNat, _, rfl, rfl, h3, by omega, by omega, six_of (by omega) (by omega), hy, ?_⟩
        rw [ee]
        refine ⟨p, _, at', _, rfl, rfl, upd_same, at0, by rw [List.length_map, hel]; omega, by rw [List.length_map, hel]; omega, ?_⟩
        refine ⟨(ms3.eraseIdx (at' + 1).toNat).take at'.toNat ++ ms3.getD (at' + 1).toNat 0 :: (ms3.eraseIdx (at' + 1).toNat).drop at'.toNat, ?_, ?_, rfl, same_upd (same_upd s3 hpH) hpH, ?_⟩
        · rw [List.length_append, List.length_cons, List.length_take, List.length_drop, hel]; omega
        · intro x hx
          rcases List.mem_append.mp hx with z | z
          · exact hx3 x (List.mem_of_mem_eraseIdx (List.mem_of_mem_take z))
          · rcases List.mem_cons.mp z with z | z
            · rw [z]; exact hx3 _ hmv
            · exact hx3 x (List.mem_of_mem_eraseIdx (List.mem_of_mem_drop z))
        · rw [upd_same, List.map_append, List.map_cons, List.map_take, List.map_drop]
      · exact ⟨ms3, hl3, hx3, rfl, s3, h3⟩
    · exact ⟨ms3, hl3, hx3, rfl, s3, h3⟩
  clear hml3 h3 s3 hl3 hx3
  rintro σ H4 ⟨ms4, hl4, hx4, rfl, s4, h4⟩
  have hml4 : (ms4.map V.int).length = ms4.length := List.length_map _
  have hS4 := s4.seq hS
  refine ⟨fun σ H' => ∃ (ms' : List Int) (u : Option V), ms'.length ≤ 80 ∧ (∀ x ∈ ms', x ≤ 200) ∧ σ = [some (.ref a), some (.int m), some (.int b), some (.ref p), some (.int y), some (.int at'), u] ∧ Same H H' ∧ H' p = some (.lst (ms'.map V.int)), ?_, ?_⟩
  · refine ⟨_, rfl, rfl, _, rfl, ite2 (fun c => ?_) (fun c => ?_)⟩
    · refine ⟨_, rfl, p, _, rfl, .inl (SqL.of h4), _, _, rfl, rfl, _, rfl, ite2 (fun c2 => ?_) (fun c2 => ?_)⟩
      · have c2' := of_decide_eq_true c2
        refine ⟨_, rfl, a, ns, 5, 2, rfl, hS4, h63, by decide, by decide, by decide, fun f f0 f1 => ?_⟩
        refine ⟨_, rfl, p, _, rfl, .inl (SqL.of h4), _, _, rfl, rfl, _, _, rfl, rfl, .inl ⟨by omega, by omega⟩, ?_⟩
        refine ⟨_, rfl, _, rfl, a, ns, 6, 3, rfl, hS4, h63, by decide, by decide, by decide, fun g g0 g1 => ?_⟩
        refine ⟨_, rfl, _, _, rfl, rfl, ⟨by decide, by decide, by decide⟩, a, ns, 7, _, rfl, hS4, h63, by decide, by decide, by decide, fun e e0 e1 => ?_⟩
        refine ⟨_, _, rfl, rfl, .inl ⟨by omega, by omega⟩, _, _, rfl, rfl, ?_⟩
        have hge : 0 ≤ g * e := Int.mul_nonneg g0 e0
        have hsp : 0 ≤ f * ((((ms4.map V.int).length : Nat) : Int) - 1) ∧ f * ((((ms4.map V.int).length : Nat) : Int) - 1) < ((ms4.map V.int).length : Int) := by
          have hf : f = 0 ∨ f = 1 := by omega
          rcases hf with rfl | rfl <;> omega
        refine ⟨_, rfl, _, rfl, p, _, _, _, rfl, rfl, h4, ixN_of hsp.1 hsp.2, ?_⟩
        refine ⟨ms4.set (f * ((((ms4.map V.int).length : Nat) : Int) - 1)).toNat (-1 - g * e), _, ?_, ?_, rfl, same_upd s4 hpH, ?_⟩
        · rw [List.length_set]; exact hl4
        · intro x hx
          rcases List.mem_or_eq_of_mem_set hx with z | z
          · exact hx4 x z
          · rw [z]; omega
        · rw [upd_same, List.map_set]
      · exact ⟨ms4, none, hl4, hx4, rfl, s4, h4⟩
    · exact ⟨ms4, none, hl4, hx4, rfl, s4, h4⟩
  rintro σ H5 ⟨ms5, u5, hl5, hx5, rfl, s5, h5⟩
  exact ⟨_, rfl, q p ms5 H5 s5 hpH hl5 hx5 h5⟩

theorem ok_lmarks (T : Tx K mg f_row_of d_row_of f_pairs d_pairs f_check_places d_check_places f_ldrawn d_ldrawn f_lwhole d_lwhole f_lrow d_lrow f_lplaces_by d_lplaces_by f_lmarks d_lmarks f_lgood d_lgood c_BeadError c_TooFew c_NoBeads) : FnOk P w K mg base CX0 3 f_lmarks d_lmarks ["places", "way"] (spMarks4 K) := by
  have X_row_of : FnOk P w K mg base (CX1 P w) 2 f_row_of d_row_of ["places"] (spRowOfX K c_NoBeads) := ok_row_ofX T
  have X_pairs : FnOk P w K mg base (CX1 P w) 2 f_pairs d_pairs ["places"] (spPairsX K c_NoBeads) := ok_pairsX T
  refine T.F_lmarks.ok sc_lmarks (fun vs H Q E h => ?_) (fun cdv A outer s H vs Q E hr h => ?_)
  · obtain ⟨a, ns, y, rfl, _⟩ := h
    rfl
  obtain ⟨a, ns, y, rfl, hS, hn2, hn1, hno, q⟩ := h
  refine ⟨_, (pss_cons (ps_try (i := 2) rfl rfl (pxs_one (px_if (pt_cmpR op_eq (pv 1) pe_int (nomark _)) (pxs_one (px_expr (px_call X_row_of (hr.mono (by decide)) rfl T.m_row_of T.F_row_of.kp T.b_row_of .nil (pa_cons (pv 0) pa_nil)))) (pxs_one (px_expr (px_call X_pairs (hr.mono (by decide)) rfl T.m_pairs T.F_pairs.kp T.b_pairs .nil (pa_cons (pv 0) pa_nil)))))) rfl T.C_BeadError sc_lmarks.nd rfl rfl (fun _ => (pss_one (ps_ret (pe_lst (pa_cons (pe_callB (call_isinstEK (K := K) rfl) rfl T.z_isinstance boot_isinstance (pa_cons (pv 2) (pa_cons (pe_glob (v := .ref c_NoBeads) rfl T.C_NoBeads rfl) pa_nil))) (pa_cons (pe_callB (call_isinstEK (K := K) rfl) rfl T.z_isinstance boot_isinstance (pa_cons (pv 2) (pa_cons (pe_bltn (v := .ty "ValueError") rfl T.z_ValueError boot_ValueError rfl) pa_nil))) (pa_cons (pe_callB (call_isinstEK (K := K) rfl) rfl T.z_isinstance boot_isinstance (pa_cons (pv 2) (pa_cons (pe_glob (v := .ref c_TooFew) rfl T.C_TooFew rfl) pa_nil))) pa_nil))))))))
      (pss_one (ps_ret (pe_lst pa_nil)))), ?_⟩
  have key : ∀ (e : Addr), H e = none → Same H (upd H e (excO e c_NoBeads)) := fun e he => same_new he _
  refine ⟨_, rfl, rfl, _, rfl, ite2 (fun c => ?_) (fun c => ?_)⟩
  · refine ⟨_, rfl, a, ns, rfl, hS, by omega, fun _ => ?_, fun z => absurd z hno⟩
    refine ⟨c_NoBeads, rfl, T.e_NoBeads_BeadError, fun e he => ?_⟩
    have s1 := key e he
    refine ⟨_, rfl, e, c_NoBeads, _, true, rfl, upd_same, T.K_NoBeads, .inl ⟨_, rfl⟩, T.i_NoBeads_NoBeads, ?_⟩
    refine ⟨_, rfl, e, c_NoBeads, _, true, rfl, upd_same, T.K_NoBeads, .inr ⟨_, rfl⟩, T.v_NoBeads, ?_⟩
    refine ⟨_, rfl, e, c_NoBeads, _, false, rfl, upd_same, T.K_NoBeads, .inl ⟨_, rfl⟩, T.i_NoBeads_TooFew, ?_⟩
    exact ⟨(by show 3 ≤ sizeLine; decide), fun l hl => q l _ (s1.trans (same_new hl _)) upd_same⟩
  · refine ⟨_, rfl, a, ns, rfl, hS, hn2, hn1, fun _ => ?_, fun z => absurd z hno⟩
    refine ⟨c_NoBeads, rfl, T.e_NoBeads_BeadError, fun e he => ?_⟩
    have s1 := key e he
    refine ⟨_, rfl, e, c_NoBeads, _, true, rfl, upd_same, T.K_NoBeads, .inl ⟨_, rfl⟩, T.i_NoBeads_NoBeads, ?_⟩
    refine ⟨_, rfl, e, c_NoBeads, _, true, rfl, upd_same, T.K_NoBeads, .inr ⟨_, rfl⟩, T.v_NoBeads, ?_⟩
    refine ⟨_, rfl, e, c_NoBeads, _, false, rfl, upd_same, T.K_NoBeads, .inl ⟨_, rfl⟩, T.i_NoBeads_TooFew, ?_⟩
    exact ⟨(by show 3 ≤ sizeLine; decide), fun l hl => q l _ (s1.trans (same_new hl _)) upd_same⟩

theorem ok_lgood (T : Tx K mg f_row_of d_row_of f_pairs d_pairs f_check_places d_check_places f_ldrawn d_ldrawn f_lwhole d_lwhole f_lrow d_lrow f_lplaces_by d_lplaces_by f_lmarks d_lmarks f_lgood d_lgood c_BeadError c_TooFew c_NoBeads) : FnOk P w K mg base CX0 1 f_lgood d_lgood ["places"] (spGood K) := by
  refine T.F_lgood.ok sc_lgood (fun vs H Q E h => ?_) (fun cdv A outer s H vs Q E hr h => ?_)
  · obtain ⟨a, ns, rfl, _⟩ := h
    rfl
  obtain ⟨a, ns, rfl, hS, hl, q⟩ := h
  have hu := hr.units
  refine ⟨_, (pss_one (ps_ret (pe_and (pe_cmpR (op_eqL hu) (pv 0) (pe_sortedSet rfl rfl T.z_sorted rfl T.z_set (pa_cons (pv 0) pa_nil)) (nomark _)) (pe_one (pe_cmpR op_ge (pe_minD rfl rfl T.z_min (pa_cons (pv 0) pa_nil) pe_int) pe_int (nomark _)))))), ?_⟩
  refine ⟨_, rfl, _, rfl, a, ns, rfl, hS, hl, fun l ms hl0 hm hup _ => ?_⟩
  have s1 := same_new hl0 (.lst (ms.map V.int))
  have hg := good_iff hm hup
  refine ⟨a, l, ns, ms, rfl, rfl, s1.seq hS, SqL.of upd_same, _, rfl, ?_⟩
  refine ite2 (fun c => ?_) (fun c => ?_)
  · have c' := of_decide_eq_true c
    have hup2 := hg.mp c'
    refine ⟨_, rfl, a, ns, rfl, s1.seq hS, fun hn => ?_, fun M hM hmin => ?_⟩
    · refine ⟨_, _, rfl, rfl, q _ _ ?_ s1⟩
      rw [hn]
      exact ⟨fun _ j hj => absurd hj (Nat.not_lt_zero j), fun _ => rfl⟩
    · refine ⟨_, _, rfl, rfl, q _ _ ?_ s1⟩
      rw [rise_iff]
      exact ⟨fun z => ⟨hup2, fun x hx => by have := hmin x hx; have := of_decide_eq_true z; omega⟩, fun z => decide_eq_true (z.2 M hM)⟩
  · refine q _ _ ?_ s1
    have c' : ¬ ns = ms := fun z => c (decide_eq_true z)
    rw [rise_iff]
    exact ⟨fun z => Bool.noConfusion z, fun z => absurd (hg.mpr z.1) c'⟩

theorem marks_rd4 {K : PySem.W.Frag} {H : Hp} {p : Addr} (h : H p = some (.lst [.bl true, .bl true, .bl false])) : RdD K H (.ref p) (.list [.bool true, .bool true, .bool false]) := by
  simp only [RdD, RdDs]
  exact ⟨p, _, rfl, SqL.of h, rfl, rfl, rfl, trivial⟩
theorem ok_law {f_law : Addr} {d_law : FuncData} (F : Fun K "law" "law" s_law f_law d_law) (T : Tx K mg f_row_of d_row_of f_pairs d_pairs f_check_places d_check_places f_ldrawn d_ldrawn f_lwhole d_lwhole f_lrow d_lrow f_lplaces_by d_lplaces_by f_lmarks d_lmarks f_lgood d_lgood c_BeadError c_TooFew c_NoBeads) : FnOk P w K mg base CX0 5 f_law d_law ["script"] (spLaw K) := by
  have G_lplaces_by : FnOk P w K mg base CX0 2 f_lplaces_by d_lplaces_by ["script"] (spPlacesBy K) := ok_lplaces_by T
  have G_lgood : FnOk P w K mg base CX0 1 f_lgood d_lgood ["places"] (spGood K) := ok_lgood T
  have G_lmarks : FnOk P w K mg base CX0 3 f_lmarks d_lmarks ["places", "way"] (spMarks4 K) := ok_lmarks T
  have G_row_of : FnOk P w K mg base CX0 2 f_row_of d_row_of ["places"] (spRowOf K) := ok_row_of T
  have G_pairs : FnOk P w K mg base CX0 2 f_pairs d_pairs ["places"] (spPairs K) := ok_pairs T
  have G_lrow : FnOk P w K mg base CX0 2 f_lrow d_lrow ["found", "due"] (spLRow K) := ok_lrow T
  have G_lwhole : FnOk P w K mg base CX0 1 f_lwhole d_lwhole ["found"] spWhole := ok_lwhole T
  refine F.ok sc_law (fun vs H Q E h => ?_) (fun cdv A outer s H vs Q E hr h => ?_)
  · obtain ⟨a, ns, rfl, _⟩ := h
    rfl
  obtain ⟨a, ks, rfl, hS, h63, q⟩ := h
  have hu := hr.units
  have hs : sizeLine = 16777216 := sizeLine_eq
  refine ⟨_, (pss_cons (ps_set (i := 1) sc_law.nd rfl (Or.inr rfl) (pe_call G_lplaces_by (hr.mono (by decide)) rfl T.m_lplaces_by T.F_lplaces_by.kp T.b_lplaces_by .nil pass0 (pa_cons (pv 0) pa_nil)))
      (pss_cons (ps_set (i := 2) sc_law.nd rfl (Or.inl rfl) (pe_callTy call_list_of rfl T.z_list boot_list (pa_cons (pv 1) pa_nil)))
      (pss_cons (ps_if (pt_not (pt_val (pe_call G_lgood (hr.mono (by decide)) rfl T.m_lgood T.F_lgood.kp T.b_lgood .nil pass0 (pa_cons (pv 1) pa_nil)))) (pss_cons (ps_set (i := 3) sc_law.nd rfl (Or.inl rfl) (pe_lst (pa_cons pe_bl (pa_cons pe_bl (pa_cons pe_bl pa_nil)))))
      (pss_one (ps_ret (pe_and (pe_cmpR (op_eqD hu) (pe_call G_lmarks (hr.mono (by decide)) rfl T.m_lmarks T.F_lmarks.kp T.b_lmarks .nil pass0 (pa_cons (pv 2) (pa_cons pe_int pa_nil))) (pv 3) (nomark _)) (pe_and (pe_cmpR (op_eqD hu) (pe_call G_lmarks (hr.mono (by decide)) rfl T.m_lmarks T.F_lmarks.kp T.b_lmarks .nil pass0 (pa_cons (pv 2) (pa_cons pe_int pa_nil))) (pv 3) (nomark _)) (pe_one (pe_cmpR (op_eqL hu) (pv 2) (pv 1) (nomark _)))))))) pss_nil)
      (pss_cons (ps_set (i := 4) sc_law.nd rfl (Or.inl rfl) (pe_lst pa_nil))
      (pss_cons (ps_set (i := 5) sc_law.nd rfl (Or.inl rfl) (pe_lst pa_nil))
      (pss_cons (ps_for PassesOwn.never rfl (pi_list (pv 1)) (pg_name (i := 6) sc_law.nd rfl (Or.inr rfl)) (pss_cons (ps_setC (i := 7) ["script", "places", "handed", "none", "due", "row", "bead", "gaps", "lap", "found", "told", "pair"] ["k", "places"] [none, some 1] (defScope s_law) rfl sc_law.nd rfl (Or.inl rfl) (pi_range1 rfl T.z_range (pa_cons (pv 6) pa_nil)) (fun _ _ _ _ => (pg_name (i := 0) (show List.Nodup (["k", "places"] : List Str) by decide +kernel) rfl (Or.inl rfl) (Or.inr rfl))) (fun _ _ _ _ => (pif_one (pt_cmpR (op_notIn_seqK (K := K) rfl) (pv 0) (pv 1) (by with_unfolding_all rfl)))) (fun _ _ _ _ => (pv 0)))
      (pss_cons (ps_expr (pe_bm PySem.F.plainAttrs_list PySem.F.slot_list_extend PySem.F.type_list_extend mt_extend (pv 4) (pa_cons (pe_comp ["script", "places", "handed", "none", "due", "row", "bead", "gaps", "lap", "found", "told", "pair"] ["gap", "bead"] [none, some 6] (defScope s_law) rfl (pi_list (pv 7)) (fun _ _ _ _ => (pg_name (i := 0) (show List.Nodup (["gap", "bead"] : List Str) by decide +kernel) rfl (Or.inl rfl) (Or.inr rfl))) (fun _ _ _ _ => pif_nil) (fun _ _ _ _ => (pe_tup (pa_cons (pv 1) (pa_cons (pv 0) pa_nil))))) pa_nil)))
      (pss_one (ps_if (pt_cmpR op_gt (pe_callB call_len_seq rfl T.z_len PySem.boot_len (pa_cons (pv 7) pa_nil)) pe_int (nomark _)) (pss_one (ps_set (i := 5) sc_law.nd rfl (Or.inl rfl) (pe_op op_cat (pe_lst (pa_cons (pe_callB call_len_seq rfl T.z_len PySem.boot_len (pa_cons (pv 7) pa_nil)) pa_nil)) (pv 5)))) pss_nil)))))
      (pss_cons (ps_for PassesOwn.never rfl (pi_range1 rfl T.z_range (pa_cons pe_int pa_nil)) (pg_name (i := 8) sc_law.nd rfl (Or.inl rfl)) (pss_cons (ps_set (i := 9) sc_law.nd rfl (Or.inl rfl) (pe_call G_row_of (hr.mono (by decide)) rfl T.m_row_of T.F_row_of.kp T.b_row_of .nil pass0 (pa_cons (pv 2) pa_nil)))
      (pss_cons (ps_set (i := 10) sc_law.nd rfl (Or.inl rfl) (pe_call G_pairs (hr.mono (by decide)) rfl T.m_pairs T.F_pairs.kp T.b_pairs .nil pass0 (pa_cons (pv 2) pa_nil)))
      (pss_cons (ps_if (PW.pt (pw_or (pt_not (pt_val (pe_call G_lrow (hr.mono (by decide)) rfl T.m_lrow T.F_lrow.kp T.b_lrow .nil pass0 (pa_cons (pv 9) (pa_cons (pv 5) pa_nil))))) (pw_or (pt_cmpR (op_neD hu) (pv 10) (pv 4) (nomark _)) (pw_or (pt_not (pt_val (pe_callB call_isinst rfl T.z_isinstance boot_isinstance (pa_cons (pv 10) (pa_cons (pe_bltn (v := .ty "list") rfl T.z_list boot_list rfl) pa_nil))))) (pw_or1 (pt_cmpR (op_neL hu) (pv 2) (pv 1) (nomark _))))))) (pss_one (ps_ret pe_bl)) pss_nil)
      (pss_cons (ps_for PassesOwn.never rfl (pi_list (pv 10)) (pg_name (i := 11) sc_law.nd rfl (Or.inl rfl)) (pss_one (ps_if (PW.pt (pw_or (pt_not (pt_val (pe_callB call_isinst rfl T.z_isinstance boot_isinstance (pa_cons (pv 11) (pa_cons (pe_bltn (v := .ty "tuple") rfl T.z_tuple boot_tuple rfl) pa_nil))))) (pw_or (pt_not (pt_val (pe_call G_lwhole (hr.mono (by decide)) rfl T.m_lwhole T.F_lwhole.kp T.b_lwhole .nil pass0 (pa_cons (pe_ix ix_tup (pv 11) pe_int (fun _ _ => rfl)) pa_nil)))) (pw_or1 (pt_not (pt_val (pe_call G_lwhole (hr.mono (by decide)) rfl T.m_lwhole T.F_lwhole.kp T.b_lwhole .nil pass0 (pa_cons (pe_ix ix_tup (pv 11) pe_int (fun _ _ => rfl)) pa_nil)))))))) (pss_one (ps_ret pe_bl)) pss_nil)))
      (pss_cons (ps_expr (pe_bm PySem.F.plainAttrs_list PySem.F.slot_list_append PySem.F.type_list_append mt_append (pv 9) (pa_cons pe_int pa_nil)))
      (pss_one (ps_expr (pe_bm PySem.F.plainAttrs_list PySem.F.slot_list_append PySem.F.type_list_append mt_append (pv 10) (pa_cons (pe_tup (pa_cons pe_int (pa_cons pe_int pa_nil))) pa_nil))))))))))
      (pss_one (ps_ret pe_bl))))))))), ?_⟩
  refine ⟨_, rfl, a, ks, rfl, hS, h63, fun p ns H1 s1 hpn hl80 h200 hp1 => ?_⟩
  have hl : (ns.map V.int).length = ns.length := List.length_map _
  refine ⟨_, rfl, p, _, rfl, .inl (SqL.of hp1), fun l hll => ?_⟩
  obtain ⟨B, hB⟩ : ∃ B, B = upd H1 l (.lst (ns.map V.int)) := ⟨_, rfl⟩
  rw [← hB]
  have hBp : B p = some (.lst (ns.map V.int)) := by rw [hB, upd_ne (ne_of_none hp1 hll)]; exact hp1
  have hBl : B l = some (.lst (ns.map V.int)) := by rw [hB]; exact upd_same
  clear hB hpn hp1 hll s1 hS h63
  have h1000 : ∀ x ∈ ns, x ≤ 1000 := fun x hx => by have := h200 x hx; omega
  refine ⟨_, rfl, p, ns, rfl, SqL.of hBp, by omega, fun b H2 hb s2 => ?_⟩
  have h2p := s2 _ _ hBp
  have h2l := s2 _ _ hBl
  clear hBp hBl s2
  cases b with
  | false =>
    have hno : ¬ Rise ns := fun z => Bool.noConfusion (hb.mpr z)
    refine ⟨_, rfl, iteT ?_⟩
    refine ⟨(by show 3 ≤ sizeLine; decide), fun nl hnl => ?_⟩
    have s3 := same_new hnl (.lst [.bl true, .bl true, .bl false])
    have hn3 : (upd H2 nl (.lst [.bl true, .bl true, .bl false])) nl = some (.lst [.bl true, .bl true, .bl false]) := upd_same
    have e : PyData.eqv (.list [.bool true, .bool true, .bool false]) (.list [.bool true, .bool true, .bool false]) = true := by decide +kernel
    refine ⟨_, rfl, l, ns, 0, rfl, SqL.of (s3 _ _ h2l), by omega, h1000, hno, fun m1 H3 s4 hm1 => ?_⟩
    refine ⟨_, rfl, _, _, marks_rd4 hm1, marks_rd4 (s4 _ _ hn3), by decide +kernel, by decide +kernel, by decide +kernel, ?_⟩
    rw [e]
    refine ⟨_, rfl, iteT ?_⟩
    refine ⟨_, rfl, l, ns, 1, rfl, SqL.of (s4 _ _ (s3 _ _ h2l)), by omega, h1000, hno, fun m2 H4 s5 hm2 => ?_⟩
    refine ⟨_, rfl, _, _, marks_rd4 hm2, marks_rd4 (s5 _ _ (s4 _ _ hn3)), by decide +kernel, by decide +kernel, by decide +kernel, ?_⟩
    rw [e]
    refine ⟨_, rfl, iteT ?_⟩
    refine ⟨_, rfl, _, rfl, l, p, ns, ns, rfl, rfl, SqL.of (s5 _ _ (s4 _ _ (s3 _ _ h2l))), SqL.of (s5 _ _ (s4 _ _ (s3 _ _ h2p))), ?_⟩
    rw [decide_eq_true rfl]
    exact q _
  | true =>
    have hrise : Rise ns := hb.mp rfl
    clear hb
    refine ⟨_, rfl, iteF ?_⟩
    refine ⟨(by show 0 ≤ sizeLine; decide), fun d hd => ?_⟩
    have t1 : Same H2 (upd H2 d (.lst [])) := same_new hd _
    refine ⟨(by show 0 ≤ sizeLine; decide), fun r0 hr0 => ?_⟩
    have t2 := t1.trans (same_new hr0 (.lst []))
    have hdr : d ≠ r0 := ne_of_none (upd_same (H := H2) (a := d) (o := .lst [])) hr0
    refine ⟨_, rfl, p, rfl, ⟨_, SqL.of (t2 _ _ h2p)⟩, for_list (K := K) (a := p) (xs := ns.map V.int)
      (fun i σ J => ∃ (u v : Option V) (rr : Addr) (ps : List Addr), σ = [some (.ref a), some (.ref p), some (.ref l), none, some (.ref d), some (.ref rr), u, v, none, none, none, none] ∧ Same H2 J ∧ d ≠ rr ∧ H2 rr = none ∧ J rr = some (.lst ((rowTo ns i).map V.int)) ∧ PT J d ps (duePs ns i))
      ⟨none, none, r0, [], rfl, t2, hdr, t1.free hr0, upd_same, ⟨rfl, by rw [upd_ne hdr]; exact upd_same, fun k hk => absurd hk (Nat.not_lt_zero k)⟩⟩ (fun i σ J _ ⟨_, _, _, _, _, z, _⟩ => SqL.of (z _ _ h2p)) ?_ ?_⟩
    · rintro i y σ J hi ⟨u, v, rr, ps, rfl, sJ, hdrr, hrn, hrJ, PJ⟩
      have hil : i < (ns.map V.int).length := (List.getElem?_eq_some_iff.mp hi).1
      rw [hl] at hil
      obtain rfl : y = V.int (ns.getD i 0) := by
        rw [List.getElem?_map, getD_of hil] at hi
        exact (Option.some.inj hi).symm
      have hb0 := rise_pos hrise i hil
      have hb1 : ns.getD i 0 ≤ 200 := h200 _ (by rw [← getD_elem hil]; exact List.getElem_mem hil)
      have hfl := fr_len hrise hil
      have hdst := due_step hil
      have hrst := row_step hil
      have hpl := due_len h200 i (by omega)
      obtain ⟨b, hbd⟩ : ∃ b : Int, b = ns.getD i 0 := ⟨_, rfl⟩
      obtain ⟨F', hF'⟩ : ∃ F' : List Int, F' = frM ns (ns.getD i 0).toNat := ⟨_, rfl⟩
      rw [← hF'] at hfl hdst
      rw [← hbd] at hfl hdst hrst hb0 hb1 hF' ⊢
      refine ⟨_, rfl, b, rfl, by omega, by omega, fun D hD => comp_range (lo := 0) (n := b.toNat) (fun j ys σ J1 => ∃ u : Option V, σ = [u, some (.ref p)] ∧ Same J J1 ∧ J1 D = some (.lst ys) ∧ ys = (frM ns j).map V.int)
        ⟨none, rfl, same_new hD _, upd_same, rfl⟩ ?_ ?_⟩
      · rintro j ys σ J1 hj ⟨u, rfl, sJ1, hD1, rfl⟩
        have hjl := frM_le ns j
        refine ⟨_, rfl, _, rfl, p, _, rfl, .inl (SqL.of (sJ1 _ _ (sJ _ _ h2p))), rfl, flat_ints _, _, rfl, ?_⟩
        rw [if_pos rfl, inV_int, frM_succ, Int.zero_add]
        by_cases c : (j : Int) ∈ ns
        · refine iteC (by rw [decide_eq_true c]; rfl) ?_
          refine ⟨_, rfl, sJ1, hD1, ?_⟩
          rw [if_pos c, List.append_nil]
        · refine iteB (by rw [decide_eq_false c]; rfl) ?_
          refine ⟨_, rfl, hD1, by rw [List.length_map]; exact small1000 (by omega), _, rfl, same_upd sJ1 hD, upd_same, ?_⟩
          rw [if_neg c, List.map_append]
          rfl
      rintro ys σ J1 ⟨u1, rfl, sJ1, hD1, rfl⟩
      rw [← hF'] at hD1
      have P1 := PJ.same sJ1
      have hFm : (F'.map V.int).length = F'.length := List.length_map _
      have hFl : F'.length ≤ 200 := by omega
      refine ⟨_, rfl, .inl ⟨rfl, _, SqL.of P1.at'⟩, _, rfl, D, rfl, ⟨_, SqL.of hD1⟩, fun D2 hD2 => comp_list (K := K) (a := D) (xs := F'.map V.int)
        (fun j ys σ H3 => ∃ (u : Option V) (qs : List Addr), σ = [u, some (.int b)] ∧ Same J1 H3 ∧ H3 D2 = some (.lst ys) ∧ ys = qs.map V.ref ∧ qs.length = j ∧ ∀ k : Nat, k < j → H3 (qs.getD k 0) = some (.tup [.int b, .int (F'.getD k 0)]))
        ⟨none, [], rfl, same_new hD2 _, upd_same, rfl, rfl, fun k hk => absurd hk (Nat.not_lt_zero k)⟩ (fun j ys σ H3 _ ⟨_, _, _, z, _⟩ => SqL.of (z _ _ hD1)) ?_ ?_⟩
      · rintro j y ys σ H3 hj ⟨u, qs, rfl, s5, hD5, rfl, hql, hqe⟩
        have hjl : j < (F'.map V.int).length := (List.getElem?_eq_some_iff.mp hj).1
        rw [hFm] at hjl
        obtain rfl : y = V.int (F'.getD j 0) := by
          rw [List.getElem?_map, getD_of hjl] at hj
          exact (Option.some.inj hj).symm
        refine ⟨_, rfl, _, rfl, (by show 2 ≤ sizeLine; decide), fun t ht => ?_⟩
        have st := same_new ht (.tup [.int b, .int (F'.getD j 0)])
        refine ⟨st _ _ hD5, by rw [List.length_map]; exact small1000 (by omega), _, qs ++ [t], rfl, same_upd (s5.trans st) hD2, upd_same, by rw [List.map_append]; rfl, by rw [List.length_append, hql]; rfl, fun k hk => ?_⟩
        by_cases z : k = j
        · subst z
          have e : (qs ++ [t]).getD k 0 = t := by rw [← hql]; exact getD_snoc_last
          rw [e, upd_ne (ne_of_none hD5 ht).symm]
          exact upd_same
        · have hk' : k < qs.length := by omega
          have h1 := st _ _ (hqe k (by omega))
          rw [getD_snoc_left hk', upd_ne (ne_of h1 (st _ _ hD5) (by intro z; cases z))]
          exact h1
      · rintro ys σ H3 ⟨u2, qs, rfl, s5, hD5, rfl, hql, hqe⟩
        rw [hFm] at hql hqe
        have P5 := P1.same s5
        refine ⟨d, D2, _, _, rfl, rfl, P5.at', hD5, ?_, ?_⟩
        · rw [List.length_map, List.length_map, P5.len]; omega
        obtain ⟨C, hC⟩ : ∃ C, C = upd H3 d (.lst (ps.map V.ref ++ qs.map V.ref)) := ⟨_, rfl⟩
        rw [← hC]
        have sC : Same H2 C := by rw [hC]; exact same_upd (sJ.trans (sJ1.trans s5)) hd
        have hCr : C rr = some (.lst ((rowTo ns i).map V.int)) := by rw [hC, upd_ne (Ne.symm hdrr)]; exact s5 _ _ (sJ1 _ _ hrJ)
        have hDd : D ≠ d := (ne_of_none PJ.at' hD).symm
        have hCD : C D = some (.lst (F'.map V.int)) := by rw [hC, upd_ne hDd]; exact s5 _ _ hD1
        have hlen2 : (duePs ns i).length = ps.length := P5.len.symm
        have PC : PT C d (ps ++ qs) (duePs ns (i + 1)) := by
          rw [hdst, hC]
          refine ⟨?_, ?_, fun k hk => ?_⟩
          · rw [List.length_append, List.length_append, List.length_map, P5.len, hql]
          · rw [upd_same, List.map_append]
          · have hk2 : k < ps.length + F'.length := by
              rw [List.length_append, List.length_map] at hk
              omega
            by_cases z : k < ps.length
            · have h1 := P5.each k (by omega)
              have e1 : (ps ++ qs).getD k 0 = ps.getD k 0 := by rw [List.getD_eq_getElem?_getD, List.getD_eq_getElem?_getD, List.getElem?_append_left z]
              have e2 : (duePs ns i ++ F'.map fun g => (b, g)).getD k (0, 0) = (duePs ns i).getD k (0, 0) := by
                simp only [List.getD_eq_getElem?_getD]
                rw [List.getElem?_append_left (by omega)]
              rw [e1, e2, upd_ne (ne_of h1 P5.at' (by intro z; cases z))]
              exact h1
            · have h1 := hqe (k - ps.length) (by omega)
              have e1 : (ps ++ qs).getD k 0 = qs.getD (k - ps.length) 0 := by rw [List.getD_eq_getElem?_getD, List.getD_eq_getElem?_getD, List.getElem?_append_right (by omega)]
              have e2 : (duePs ns i ++ F'.map fun g => (b, g)).getD k (0, 0) = (b, F'.getD (k - ps.length) 0) := by
                rw [List.getD_eq_getElem?_getD, List.getElem?_append_right (by omega), hlen2, List.getElem?_map, getD_of (by omega)]
                rfl
              rw [e1, e2, upd_ne (ne_of h1 P5.at' (by intro z; cases z))]
              exact h1
        clear hC hdst P5 PJ P1 hqe
        refine ⟨_, rfl, D, _, rfl, .inl (SqL.of hCD), _, _, rfl, rfl, _, rfl, ite2 (fun c => ?_) (fun c => ?_)⟩
        · have c' := of_decide_eq_true c
          have c2 : 0 < b - (i : Int) := by omega
          rw [if_pos c2] at hrst
          refine ⟨_, rfl, D, _, rfl, .inl (SqL.of hCD), (by show 1 ≤ sizeLine; decide), fun t ht => ?_⟩
          have sT := same_new ht (.lst [.int (((F'.map V.int).length : Nat) : Int)])
          have hrl : (rowTo ns i).length ≤ i := by
            unfold rowTo
            refine Nat.le_trans (List.length_filter_le _ _) ?_
            rw [List.length_reverse, List.length_take]
            omega
          refine ⟨_, rfl, t, rr, _, _, rfl, rfl, upd_same, sT _ _ hCr, by show 1 + ((rowTo ns i).map V.int).length ≤ _; rw [List.length_map]; omega, fun z hz => ?_⟩
          have sZ := sT.trans (same_new hz (.lst ([V.int (((F'.map V.int).length : Nat) : Int)] ++ (rowTo ns i).map V.int)))
          refine ⟨_, _, z, ps ++ qs, rfl, sC.trans sZ, ne_of_none (sT _ _ PC.at') hz, sC.free (sT.free hz), ?_, PC.same sZ⟩
          rw [upd_same, hrst, List.map_append, hFm, hfl]
          rfl
        · have c' : ¬ (0 : Int) < (((F'.map V.int).length : Nat) : Int) := fun z => c (decide_eq_true z)
          have c2 : ¬ 0 < b - (i : Int) := by omega
          rw [if_neg c2, List.nil_append] at hrst
          refine ⟨_, _, rr, ps ++ qs, rfl, sC, hdrr, hrn, ?_, PC⟩
          rw [hrst]
          exact hCr
    rintro σ J0 ⟨u, v, rr, ps, rfl, s0, hdrr, _, hr0J, PJ⟩
    rw [hl] at hr0J PJ
    rw [row_all] at hr0J
    rw [← pairs_due hrise] at PJ
    have hpl : (pairsM ns).length ≤ 16000 := by
      rw [pairs_due hrise]
      have := due_len h200 ns.length (Nat.le_refl _)
      omega
    have hrl : (rowOfM ns).length ≤ 80 := by
      rw [← row_all]
      unfold rowTo
      refine Nat.le_trans (List.length_filter_le _ _) ?_
      rw [List.length_reverse, List.length_take]
      omega
    have h0p := s0 _ _ h2p
    have h0l := s0 _ _ h2l
    clear t1 t2 hdr hd hr0 s0 h2p h2l hdrr
    obtain ⟨L, hL⟩ : ∃ L, L = pairsM ns := ⟨_, rfl⟩
    rw [← hL] at PJ hpl
    refine ⟨_, rfl, by decide, by decide, for_range (lo := 0) (n := 2)
      (fun i σ J => ∃ (u8 u9 u10 u11 : Option V), σ = [some (.ref a), some (.ref p), some (.ref l), none, some (.ref d), some (.ref rr), u, v, u8, u9, u10, u11] ∧ Same J0 J)
      ⟨none, none, none, none, rfl, fun _ _ z => z⟩ ?_ ?_⟩
    · rintro i σ J _ ⟨u8, u9, u10, u11, rfl, sJ⟩
      refine ⟨_, rfl, l, ns, rfl, SqL.of (sJ _ _ h0l), hrise, by omega, fun fd H3 s3 hfn hfd => ?_⟩
      refine ⟨_, rfl, l, ns, rfl, SqL.of (s3 _ _ (sJ _ _ h0l)), hrise, by omega, h1000, fun td qs H4 s4 htn PT4 => ?_⟩
      rw [← hL] at PT4
      have t4 : Same J0 H4 := sJ.trans (s3.trans s4)
      have hfd4 := s4 _ _ hfd
      have htf : td ≠ fd := (ne_of_none hfd htn).symm
      have hf0 : J0 fd = none := sJ.free hfn
      have ht0 : J0 td = none := sJ.free (s3.free htn)
      have PJ4 := PJ.same t4
      refine ⟨_, rfl, _, rfl, fd, rr, rowOfM ns, rowOfM ns, rfl, hfd4, SqL.of (t4 _ _ hr0J), by omega, by omega, _, rfl, iteC (by rw [decide_eq_true rfl]; rfl) ?_⟩
      have hdp : (PyData.list (dPs L)).depth ≤ 2 := by rw [PyData.depth]; have := depth_ps L; omega
      refine ⟨_, rfl, _, rfl, _, _, rd_ps PT4, rd_ps PJ4, by rw [PyData.canLay0]; exact lay_ps L, by rw [PyData.canLay0]; exact lay_ps L, by omega, _, rfl, iteC (by rw [eqv_ps]; rfl) ?_⟩
      refine ⟨_, rfl, _, _, _, true, rfl, .lst PT4.at', kit_list_list, _, rfl, iteF ?_⟩
      refine ⟨_, rfl, _, rfl, l, p, ns, ns, rfl, rfl, SqL.of (t4 _ _ h0l), SqL.of (t4 _ _ h0p), _, rfl, iteC (by rw [decide_eq_true rfl]; rfl) ?_⟩
      have hqsl : (qs.map V.ref).length = L.length := by rw [List.length_map]; exact PT4.len
      refine ⟨_, rfl, td, rfl, ⟨_, SqL.of PT4.at'⟩, for_list (K := K) (a := td) (xs := qs.map V.ref)
        (fun j σ J5 => ∃ w : Option V, σ = [some (.ref a), some (.ref p), some (.ref l), none, some (.ref d), some (.ref rr), u, v, some (.int (0 + (i : Int))), some (.ref fd), some (.ref td), w] ∧ J5 = H4)
        ⟨u11, rfl, rfl⟩ (fun j σ J5 _ ⟨_, _, z⟩ => by rw [z]; exact SqL.of PT4.at') ?_ ?_⟩
      · rintro j y σ J5 hj ⟨w, rfl, rfl⟩
        have hjl : j < (qs.map V.ref).length := (List.getElem?_eq_some_iff.mp hj).1
        have hjp : j < qs.length := by rw [List.length_map] at hjl; exact hjl
        obtain rfl : y = V.ref (qs.getD j 0) := by
          rw [List.getElem?_map, List.getElem?_eq_getElem hjp] at hj
          rw [List.getD_eq_getElem?_getD, List.getElem?_eq_getElem hjp]
          exact (Option.some.inj hj).symm
        have ht := PT4.each j (by omega)
        refine ⟨_, rfl, _, _, _, true, rfl, .tup ht, kit_tup_tup, _, rfl, iteF ?_⟩
        refine ⟨_, rfl, qs.getD j 0, _, _, _, rfl, rfl, SqT.of ht, rfl, _, rfl, _, rfl, iteF ?_⟩
        refine ⟨_, rfl, qs.getD j 0, _, _, _, rfl, rfl, SqT.of ht, rfl, _, rfl, _, rfl, iteF ?_⟩
        exact ⟨_, rfl, rfl⟩
      · rintro σ J5 ⟨w, rfl, rfl⟩
        refine ⟨_, rfl, .inl ⟨rfl, _, SqL.of hfd4⟩, fd, _, _, rfl, rfl, hfd4, by rw [List.length_map]; omega, ?_⟩
        have h5 : (upd J5 fd (.lst ((rowOfM ns).map V.int ++ [.int 9]))) td = some (.lst (qs.map V.ref)) := by rw [upd_ne htf]; exact PT4.at'
        refine ⟨_, rfl, .inl ⟨rfl, _, SqL.of h5⟩, (by show 2 ≤ sizeLine; decide), fun t ht => ?_⟩
        have s6 := same_new ht (.tup [.int 9, .int 9])
        exact ⟨td, _, _, rfl, rfl, s6 _ _ h5, by omega, _, _, _, _, rfl, same_upd ((same_upd t4 hf0).trans s6) ht0⟩
    · rintro σ J ⟨u8, u9, u10, u11, rfl, sJ⟩
      exact q J

end
theorem len1 {α : Type} {P : List α → Prop} : (∀ a0 : α, P [a0]) → ∀ us : List α, us.length = 1 → P us := by
  intro k us h
  match us, h with
  | [a0], _ => exact k a0
theorem len2 {α : Type} {P : List α → Prop} : (∀ a0 a1 : α, P [a0, a1]) → ∀ us : List α, us.length = 2 → P us := by
  intro k us h
  match us, h with
  | [a0, a1], _ => exact k a0 a1
theorem len3 {α : Type} {P : List α → Prop} : (∀ a0 a1 a2 : α, P [a0, a1, a2]) → ∀ us : List α, us.length = 3 → P us := by
  intro k us h
  match us, h with
  | [a0, a1, a2], _ => exact k a0 a1 a2
theorem all_mk {l : PySem.W.OpenLaw} {w : World} {K : PySem.W.Frag} {h : Heap} {mg : Str → Option Value} {fa f1 f2 f3 f4 f5 f6 f7 f8 f9 f10 : Addr} (X : K.In h) (G : h.Ns mainGlobals mg) (hfa : mg "law" = some (.ref fa))
    {od1 an1 od2 an2 od3 an3 od4 an4 od5 an5 od6 an6 od7 an7 od8 an8 od9 an9 od10 an10 : Option Addr} {sl1 sl2 sl3 sl4 sl5 sl6 sl7 sl8 sl9 sl10 : Array (Option Value)} {oc1 kV1 dc1 pm1 cd1 ct1 oc2 kV2 dc2 pm2 cd2 ct2 oc3 kV3 dc3 pm3 cd3 ct3 oc4 kV4 dc4 pm4 cd4 ct4 oc5 kV5 dc5 pm5 cd5 ct5 oc6 kV6 dc6 pm6 cd6 ct6 oc7 kV7 dc7 pm7 cd7 ct7 oc8 kV8 dc8 pm8 cd8 ct8 oc9 kV9 dc9 pm9 cd9 ct9 oc10 kV10 dc10 pm10 cd10 ct10 : Value}
    (a1 : PySem.W.nsIn K mainGlobals "row_of" = some (some (.ref f1))) (l1 : K.lookup f1 = some ⟨oc1, od1, .func (PySem.W.fnOf "row_of" "row_of" (defArgs s_row_of) (defBody s_row_of) (defScope s_row_of) .none kV1 dc1 pm1 an1 cd1 ct1), sl1⟩) (c1 : PySem.W.codeIn K cd1 "row_of" = true) (k1 : PySem.W.keepIn K (.ref f1) = true)
    (a2 : PySem.W.nsIn K mainGlobals "pairs" = some (some (.ref f2))) (l2 : K.lookup f2 = some ⟨oc2, od2, .func (PySem.W.fnOf "pairs" "pairs" (defArgs s_pairs) (defBody s_pairs) (defScope s_pairs) .none kV2 dc2 pm2 an2 cd2 ct2), sl2⟩) (c2 : PySem.W.codeIn K cd2 "pairs" = true) (k2 : PySem.W.keepIn K (.ref f2) = true)
    (a3 : PySem.W.nsIn K mainGlobals "check_places" = some (some (.ref f3))) (l3 : K.lookup f3 = some ⟨oc3, od3, .func (PySem.W.fnOf "check_places" "check_places" (defArgs s_check_places) (defBody s_check_places) (defScope s_check_places) .none kV3 dc3 pm3 an3 cd3 ct3), sl3⟩) (c3 : PySem.W.codeIn K cd3 "check_places" = true) (k3 : PySem.W.keepIn K (.ref f3) = true)
    (a4 : PySem.W.nsIn K mainGlobals "_law_drawn" = some (some (.ref f4))) (l4 : K.lookup f4 = some ⟨oc4, od4, .func (PySem.W.fnOf "_law_drawn" "_law_drawn" (defArgs s_ldrawn) (defBody s_ldrawn) (defScope s_ldrawn) .none kV4 dc4 pm4 an4 cd4 ct4), sl4⟩) (c4 : PySem.W.codeIn K cd4 "_law_drawn" = true) (k4 : PySem.W.keepIn K (.ref f4) = true)
    (a5 : PySem.W.nsIn K mainGlobals "_law_whole" = some (some (.ref f5))) (l5 : K.lookup f5 = some ⟨oc5, od5, .func (PySem.W.fnOf "_law_whole" "_law_whole" (defArgs s_lwhole) (defBody s_lwhole) (defScope s_lwhole) .none kV5 dc5 pm5 an5 cd5 ct5), sl5⟩) (c5 : PySem.W.codeIn K cd5 "_law_whole" = true) (k5 : PySem.W.keepIn K (.ref f5) = true)
    (a6 : PySem.W.nsIn K mainGlobals "_law_row" = some (some (.ref f6))) (l6 : K.lookup f6 = some ⟨oc6, od6, .func (PySem.W.fnOf "_law_row" "_law_row" (defArgs s_lrow) (defBody s_lrow) (defScope s_lrow) .none kV6 dc6 pm6 an6 cd6 ct6), sl6⟩) (c6 : PySem.W.codeIn K cd6 "_law_row" = true) (k6 : PySem.W.keepIn K (.ref f6) = true)
    (a7 : PySem.W.nsIn K mainGlobals "_law_places_by" = some (some (.ref f7))) (l7 : K.lookup f7 = some ⟨oc7, od7, .func (PySem.W.fnOf "_law_places_by" "_law_places_by" (defArgs s_lplaces_by) (defBody s_lplaces_by) (defScope s_lplaces_by) .none kV7 dc7 pm7 an7 cd7 ct7), sl7⟩) (c7 : PySem.W.codeIn K cd7 "_law_places_by" = true) (k7 : PySem.W.keepIn K (.ref f7) = true)
    (a8 : PySem.W.nsIn K mainGlobals "_law_marks" = some (some (.ref f8))) (l8 : K.lookup f8 = some ⟨oc8, od8, .func (PySem.W.fnOf "_law_marks" "_law_marks" (defArgs s_lmarks) (defBody s_lmarks) (defScope s_lmarks) .none kV8 dc8 pm8 an8 cd8 ct8), sl8⟩) (c8 : PySem.W.codeIn K cd8 "_law_marks" = true) (k8 : PySem.W.keepIn K (.ref f8) = true)
    (a9 : PySem.W.nsIn K mainGlobals "_law_good" = some (some (.ref f9))) (l9 : K.lookup f9 = some ⟨oc9, od9, .func (PySem.W.fnOf "_law_good" "_law_good" (defArgs s_lgood) (defBody s_lgood) (defScope s_lgood) .none kV9 dc9 pm9 an9 cd9 ct9), sl9⟩) (c9 : PySem.W.codeIn K cd9 "_law_good" = true) (k9 : PySem.W.keepIn K (.ref f9) = true)
    (a10 : PySem.W.nsIn K mainGlobals "law" = some (some (.ref f10))) (l10 : K.lookup f10 = some ⟨oc10, od10, .func (PySem.W.fnOf "law" "law" (defArgs s_law) (defBody s_law) (defScope s_law) .none kV10 dc10 pm10 an10 cd10 ct10), sl10⟩) (c10 : PySem.W.codeIn K cd10 "law" = true) (k10 : PySem.W.keepIn K (.ref f10) = true)
    (z_ValueError : PySem.W.nsIn K mainGlobals "ValueError" = some none) (z_bool : PySem.W.nsIn K mainGlobals "bool" = some none) (z_enumerate : PySem.W.nsIn K mainGlobals "enumerate" = some none) (z_int : PySem.W.nsIn K mainGlobals "int" = some none) (z_isinstance : PySem.W.nsIn K mainGlobals "isinstance" = some none) (z_len : PySem.W.nsIn K mainGlobals "len" = some none) (z_list : PySem.W.nsIn K mainGlobals "list" = some none) (z_min : PySem.W.nsIn K mainGlobals "min" = some none) (z_range : PySem.W.nsIn K mainGlobals "range" = some none) (z_reversed : PySem.W.nsIn K mainGlobals "reversed" = some none) (z_set : PySem.W.nsIn K mainGlobals "set" = some none) (z_sorted : PySem.W.nsIn K mainGlobals "sorted" = some none) (z_tuple : PySem.W.nsIn K mainGlobals "tuple" = some none)
    {c_BeadError c_TooFew c_NoBeads : Addr} (C_BeadError : PySem.W.nsIn K mainGlobals "BeadError" = some (some (.ref c_BeadError))) (C_TooFew : PySem.W.nsIn K mainGlobals "TooFew" = some (some (.ref c_TooFew))) (C_NoBeads : PySem.W.nsIn K mainGlobals "NoBeads" = some (some (.ref c_NoBeads))) (x_NoBeads : PySem.W.excIn K c_NoBeads bmV "ValueError.__new__" = true) (ga_NoBeads : PySem.W.findIn K (.ref c_NoBeads) "__getattribute__" = some (some (.builtin "BaseException.__getattribute__"))) (gt_NoBeads : PySem.W.findIn K (.ref c_NoBeads) "__getattr__" = some none) (cl_NoBeads : PySem.W.findIn K (.ref c_NoBeads) "__class__" = some (some (.builtin "object.__class__"))) (sb_NoBeads : PySem.W.subIn K (.ref c_NoBeads) (.type "BaseException") = some true) (so_NoBeads : PySem.W.subIn K (.ref c_NoBeads) (.type "object") = some true) (hc_NoBeads : (PySem.W.clsIn K c_NoBeads).isSome = true) (v_NoBeads : PySem.W.kitOne K (.ref c_NoBeads) (.type "ValueError") = some true) (e_NoBeads_BeadError : PySem.W.exmOne K (.ref c_NoBeads) (.ref c_BeadError) = some true) (i_NoBeads_NoBeads : PySem.W.kitOne K (.ref c_NoBeads) (.ref c_NoBeads) = some true) (i_NoBeads_TooFew : PySem.W.kitOne K (.ref c_NoBeads) (.ref c_TooFew) = some false) :
    ∃ fd : FuncData, (∀ (s : Shared) (v : Value), BindsTo s fd ⟨[v], []⟩ [("script", v)]) ∧ ∀ base : Heap, K.In base → base.Ns mainGlobals mg → FnOk l.prog w K mg base CX0 5 fa fd ["script"] (spLaw K) := by
  have e := hfa.symm.trans (PySem.W.mg_of X G a10)
  cases e
  have F1 := fun_mk (st := s_row_of) l1 c1 k1
  have F2 := fun_mk (st := s_pairs) l2 c2 k2
  have F3 := fun_mk (st := s_check_places) l3 c3 k3
  have F4 := fun_mk (st := s_ldrawn) l4 c4 k4
  have F5 := fun_mk (st := s_lwhole) l5 c5 k5
  have F6 := fun_mk (st := s_lrow) l6 c6 k6
  have F7 := fun_mk (st := s_lplaces_by) l7 c7 k7
  have F8 := fun_mk (st := s_lmarks) l8 c8 k8
  have F9 := fun_mk (st := s_lgood) l9 c9 k9
  have F10 := fun_mk (st := s_law) l10 c10 k10
  have b1 := F1.binds (ps := ["places"]) fun _ _ _ _ _ _ => len1 fun _ => rfl
  have b2 := F2.binds (ps := ["places"]) fun _ _ _ _ _ _ => len1 fun _ => rfl
  have b3 := F3.binds (ps := ["places"]) fun _ _ _ _ _ _ => len1 fun _ => rfl
  have b4 := F4.binds (ps := ["script", "k", "many"]) fun _ _ _ _ _ _ => len3 fun _ _ _ => rfl
  have b5 := F5.binds (ps := ["found"]) fun _ _ _ _ _ _ => len1 fun _ => rfl
  have b6 := F6.binds (ps := ["found", "due"]) fun _ _ _ _ _ _ => len2 fun _ _ => rfl
  have b7 := F7.binds (ps := ["script"]) fun _ _ _ _ _ _ => len1 fun _ => rfl
  have b8 := F8.binds (ps := ["places", "way"]) fun _ _ _ _ _ _ => len2 fun _ _ => rfl
  have b9 := F9.binds (ps := ["places"]) fun _ _ _ _ _ _ => len1 fun _ => rfl
  exact ⟨PySem.W.fnOf "law" "law" (defArgs s_law) (defBody s_law) (defScope s_law) .none kV10 dc10 pm10 an10 cd10 ct10, fun s v => .of_eq rfl, fun base _ _ => ok_law F10 ⟨F1, PySem.W.mg_of X G a1, b1, F2, PySem.W.mg_of X G a2, b2, F3, PySem.W.mg_of X G a3, b3, F4, PySem.W.mg_of X G a4, b4, F5, PySem.W.mg_of X G a5, b5, F6, PySem.W.mg_of X G a6, b6, F7, PySem.W.mg_of X G a7, b7, F8, PySem.W.mg_of X G a8, b8, F9, PySem.W.mg_of X G a9, b9, PySem.W.mg_none_of X G z_ValueError, PySem.W.mg_none_of X G z_bool, PySem.W.mg_none_of X G z_enumerate, PySem.W.mg_none_of X G z_int, PySem.W.mg_none_of X G z_isinstance, PySem.W.mg_none_of X G z_len, PySem.W.mg_none_of X G z_list, PySem.W.mg_none_of X G z_min, PySem.W.mg_none_of X G z_range, PySem.W.mg_none_of X G z_reversed, PySem.W.mg_none_of X G z_set, PySem.W.mg_none_of X G z_sorted, PySem.W.mg_none_of X G z_tuple, PySem.W.mg_of X G C_BeadError, PySem.W.mg_of X G C_TooFew, PySem.W.mg_of X G C_NoBeads, x_NoBeads, ⟨ga_NoBeads, gt_NoBeads, cl_NoBeads, sb_NoBeads, so_NoBeads, hc_NoBeads⟩, v_NoBeads, e_NoBeads_BeadError, i_NoBeads_NoBeads, i_NoBeads_TooFew⟩⟩
theorem walk {l : PySem.W.OpenLaw} {q : Program} {loose : List Str} {XP : (Str → Option Value) → Heap → Prop} {YP : World → Heap → Prop} {d : DefRec} {K : Params → PySem.W.Frag} (hn : l.most = some 63) (hdf : d.params.defaults = [])
    (hY : ∀ (w : World) (h : Heap), YP w h → (K w.params).In h)
    (F : ∀ (w : World) (mg : Str → Option Value) (fa : Addr) (h : Heap), (K w.params).In h → h.Ns mainGlobals mg → mg d.name = some (.ref fa) →
      ∃ fd : FuncData, (∀ (s : Shared) (u : Value), BindsTo s fd ⟨[u], []⟩ [("script", u)]) ∧ ∀ base : Heap, (K w.params).In base → base.Ns mainGlobals mg → FnOk l.prog w (K w.params) mg base CX0 5 fa fd ["script"] (spLaw (K w.params))) :
    PySem.W.WalkO q loose XP YP l.row.toRowW d [] (fun f vs => PySem.call f vs) :=
  L2.walk_of (n := 63) (k := 5) (x := "script") (CX := fun _ => CX0) (sp := fun w => spLaw (K w.params)) hn (by decide) hdf ⟨rfl, by decide, by decide⟩ hY F (fun _ _ a ns hl _ hS => ⟨a, ns, rfl, hS, hl, fun _ => rfl⟩) fun _ _ _ _ _ z => z
end Rb
open PySem PySem.W PyProof.Rows
set_option maxRecDepth 100000 in
set_option maxHeartbeats 0 in
theorem PySem.Challenge.cw_rodbeads_k04_places_of_beads_holds : PySem.Challenge.rw_rodbeads_k04_places_of_beads.Holds := by
  w_on; o_law; k_head; (case hw => w_witness2)
  k_fill
  refine Rb.walk (l := PySem.Challenge.rw_rodbeads_k04_places_of_beads) rfl rfl (fun w h Y => PySem.W.kIn_of Y) ?F
  case F =>
    intro w mg fa h KX G hmg
    refine' Rb.all_mk KX G hmg ?a1 ?l1 ?c1 ?k1 ?a2 ?l2 ?c2 ?k2 ?a3 ?l3 ?c3 ?k3 ?a4 ?l4 ?c4 ?k4 ?a5 ?l5 ?c5 ?k5 ?a6 ?l6 ?c6 ?k6 ?a7 ?l7 ?c7 ?k7 ?a8 ?l8 ?c8 ?k8 ?a9 ?l9 ?c9 ?k9 ?a10 ?l10 ?c10 ?k10 ?z_ValueError ?z_bool ?z_enumerate ?z_int ?z_isinstance ?z_len ?z_list ?z_min ?z_range ?z_reversed ?z_set ?z_sorted ?z_tuple ?C_BeadError ?C_TooFew ?C_NoBeads ?x_NoBeads ?ga_NoBeads ?gt_NoBeads ?cl_NoBeads ?sb_NoBeads ?so_NoBeads ?hc_NoBeads ?v_NoBeads ?e_NoBeads_BeadError ?i_NoBeads_NoBeads ?i_NoBeads_TooFew
    (case a1 => k_is); (case l1 => k_is); (case c1 => k_is); (case k1 => k_is)
    (case a2 => k_is); (case l2 => k_is); (case c2 => k_is); (case k2 => k_is)
    (case a3 => k_is); (case l3 => k_is); (case c3 => k_is); (case k3 => k_is)
    (case a4 => k_is); (case l4 => k_is); (case c4 => k_is); (case k4 => k_is)
    (case a5 => k_is); (case l5 => k_is); (case c5 => k_is); (case k5 => k_is)
    (case a6 => k_is); (case l6 => k_is); (case c6 => k_is); (case k6 => k_is)
    (case a7 => k_is); (case l7 => k_is); (case c7 => k_is); (case k7 => k_is)
    (case a8 => k_is); (case l8 => k_is); (case c8 => k_is); (case k8 => k_is)
    (case a9 => k_is); (case l9 => k_is); (case c9 => k_is); (case k9 => k_is)
    (case a10 => k_is); (case l10 => k_is); (case c10 => k_is); (case k10 => k_is)
    (case z_ValueError => k_is)
    (case z_bool => k_is)
    (case z_enumerate => k_is)
    (case z_int => k_is)
    (case z_isinstance => k_is)
    (case z_len => k_is)
    (case z_list => k_is)
    (case z_min => k_is)
    (case z_range => k_is)
    (case z_reversed => k_is)
    (case z_set => k_is)
    (case z_sorted => k_is)
    (case z_tuple => k_is)
    (case C_BeadError => k_is)
    (case C_TooFew => k_is)
    (case C_NoBeads => k_is)
    (case x_NoBeads => k_exc)
    (case ga_NoBeads => k_is)
    (case gt_NoBeads => k_is)
    (case cl_NoBeads => k_is)
    (case sb_NoBeads => k_is)
    (case so_NoBeads => k_is)
    (case hc_NoBeads => kernel_rfl)
    (case v_NoBeads => kernel_rfl)
    (case e_NoBeads_BeadError => kernel_rfl)
    (case i_NoBeads_NoBeads => kernel_rfl)
    (case i_NoBeads_TooFew => kernel_rfl)

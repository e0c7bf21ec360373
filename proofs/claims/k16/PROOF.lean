import PyProof.Rows.All
import Wide.All
import OpenK.AllK
import Wide.FinOn
import Lean
import PyProof.EqAt
import PyProof.EqKinds
import PyProof.TupleCall
import KE.KTryMore
import PyProof.ExcArgsOwn
import KE.KIntText
import PyProof.Rows.StrNews
import PyProof.Rows.StrWeight2
import PyProof.StrLawsTight
import PyProof.StrLawsChain
import PyProof.Rows.Range3
import PyProof.ZipIter
import PyProof.Rows.SumAny
import PyProof.NoPylong
import PySem.Challenge.RW_rodbeads_k16_whole_ways_down
set_option Elab.async false
set_option linter.all false
set_option maxRecDepth 100000
namespace L2
open PySem PySem.Spec PyProof.Rows

abbrev Key := Sum Int Str
def keyIs : Key → Value → Bool
  | .inl k, v => Value.isInt k v
  | .inr x, v => Value.isStrOf x v
def keyH (w : World) : Key → Int
  | .inl k => hashInt k
  | .inr x => hashStr w x
theorem keyIs_shape : ∀ {k : Key} {v : Value}, keyIs k v = true → (∃ i t, k = Sum.inl i ∧ v = Value.int i t) ∨ (∃ x t, k = Sum.inr x ∧ v = Value.str x t)
  | .inl i, v, h => by
    obtain ⟨t, e⟩ := Value.isInt_shape (k := i) (v := v) h
    exact .inl ⟨i, t, rfl, e⟩
  | .inr x, v, h => by
    obtain ⟨t, e⟩ := Value.isStrOf_shape (x := x) (v := v) h
    exact .inr ⟨x, t, rfl, e⟩
theorem key_ll (a b : Int) : decide ((Sum.inl a : Key) = Sum.inl b) = (a == b) := by
  by_cases e : a = b
  · subst e; simp
  · have h : ¬ (Sum.inl a : Key) = Sum.inl b := fun q => e (Sum.inl.inj q)
    rw [decide_eq_false h]
    exact (beq_eq_false_iff_ne.mpr e).symm
theorem key_rr (a b : Str) : decide ((Sum.inr a : Key) = Sum.inr b) = decide (a = b) := by
  by_cases e : a = b
  · subst e; simp
  · have h : ¬ (Sum.inr a : Key) = Sum.inr b := fun q => e (Sum.inr.inj q)
    rw [decide_eq_false h, decide_eq_false e]
theorem key_lr (a : Int) (b : Str) : decide ((Sum.inl a : Key) = Sum.inr b) = false := decide_eq_false (fun q => nomatch q)
theorem key_rl (a : Str) (b : Int) : decide ((Sum.inr a : Key) = Sum.inl b) = false := decide_eq_false (fun q => nomatch q)

def mixKind (prog : Program) (w : World) : PySem.KeyKind prog w Key where
  is := keyIs
  hash := keyH w
  inj := fun v a b ha hb => by
    rcases keyIs_shape ha with ⟨i, t, rfl, rfl⟩ | ⟨x, t, rfl, rfl⟩
    · rcases keyIs_shape hb with ⟨j, u, rfl, e⟩ | ⟨y, u, rfl, e⟩
      · injection e with e1 _; rw [e1]
      · exact nomatch e
    · rcases keyIs_shape hb with ⟨j, u, rfl, e⟩ | ⟨y, u, rfl, e⟩
      · exact nomatch e
      · injection e with e1 _; rw [e1]
  byValue := fun k v h => by
    rcases keyIs_shape h with ⟨i, t, rfl, rfl⟩ | ⟨x, t, rfl, rfl⟩ <;> rfl
  pyHash := fun hv h => by
    rcases keyIs_shape hv with ⟨i, t, rfl, rfl⟩ | ⟨x, t, rfl, rfl⟩
    · exact wpAny_pyHash_int h
    · exact wpAny_pyHash_str h
  eqBool := fun hu hv h => by
    rcases keyIs_shape hu with ⟨i, t, rfl, rfl⟩ | ⟨x, t, rfl, rfl⟩
    · rcases keyIs_shape hv with ⟨j, u, rfl, rfl⟩ | ⟨y, u, rfl, rfl⟩
      · rw [key_ll] at h; exact wpAny_eqBool_int h
      · rw [key_lr] at h; exact SeqAt.EqAt.int_str i t y u _ _ _ _ h
    · rcases keyIs_shape hv with ⟨j, u, rfl, rfl⟩ | ⟨y, u, rfl, rfl⟩
      · rw [key_rl] at h; exact SeqAt.EqAt.str_int x t j u _ _ _ _ h
      · rw [key_rr] at h; exact wpAny_eqBool_str h
  «strs» := fun k x t v h => by
    rcases keyIs_shape h with ⟨i, u, rfl, e⟩ | ⟨y, u, rfl, e⟩
    · exact nomatch e
    · injection e with e1 _
      subst e1
      cases v <;> rfl

end L2

namespace L2
open PySem PySem.Spec PyProof.Rows

inductive V where
  | non | bl (b : Bool) | int (i : Int) | str (x : Str) | byt (b : Array UInt8) | flt (b : UInt64) | ref (a : Addr) | ty (n : String)
  deriving DecidableEq

def RelV : V → Value → Prop
  | .non, u => u = Value.none
  | .bl b, u => u = Value.bool b
  | .int i, u => ∃ t, u = Value.int i t
  | .str x, u => ∃ t, u = Value.str x t
  | .byt b, u => ∃ t, u = Value.bytes b t
  | .flt b, u => ∃ t, u = Value.float b t
  | .ref a, u => u = Value.ref a
  | .ty n, u => u = Value.type n

abbrev Vals : List V → List Value → Prop := Paired RelV
theorem Vals.length {xs : List V} {us : List Value} (r : Vals xs us) : xs.length = us.length := Paired.length r
theorem Vals.get : ∀ {xs : List V} {us : List Value} {i : Nat} {x : V}, Vals xs us → xs[i]? = some x → ∃ u, us[i]? = some u ∧ RelV x u
  | _, _, _, _, .nil, e => by simp at e
  | _, _, 0, _, .cons r _, e => by simp at e; subst e; exact ⟨_, rfl, r⟩
  | _, _, i + 1, x, .cons _ t, e => by
    obtain ⟨u, h1, h2⟩ := Vals.get (i := i) (x := x) t (by simpa using e)
    exact ⟨u, by simpa using h1, h2⟩
theorem Vals.append : ∀ {xs ys : List V} {us ws : List Value}, Vals xs us → Vals ys ws → Vals (xs ++ ys) (us ++ ws)
  | _, _, _, _, .nil, s => s
  | _, _, _, _, .cons r t, s => .cons r (Vals.append t s)
theorem Vals.take : ∀ {xs : List V} {us : List Value} (n : Nat), Vals xs us → Vals (xs.take n) (us.take n)
  | _, _, 0, _ => .nil
  | _, _, _ + 1, .nil => .nil
  | _, _, n + 1, .cons r t => .cons r (Vals.take n t)
theorem Vals.drop : ∀ {xs : List V} {us : List Value} (n : Nat), Vals xs us → Vals (xs.drop n) (us.drop n)
  | _, _, 0, r => r
  | _, _, _ + 1, .nil => .nil
  | _, _, n + 1, .cons _ t => Vals.drop n t
def RelO : Option V → Option Value → Prop
  | some v, some u => RelV v u
  | none, none => True
  | _, _ => False
def KV {κ : Type} : List (κ × V) → List (κ × Value) → Prop := Paired fun (p : κ × V) (q : κ × Value) => p.1 = q.1 ∧ RelV p.2 q.2

def kV : Key → V
  | .inl i => .int i
  | .inr x => .str x

inductive HO where
  /-- a list -/
  | lst (xs : List V)
  /-- a tuple (never changes) -/
  | tup (xs : List V)
  /-- a dict whose keys are ints and texts; one whose keys are tuples of ints and texts (the empty one is both) -/
  | dK (kvs : List (Key × V)) | dT (kvs : List (List Key × V))
  /-- a set of ints: its members, its size -/
  | set (S : Int → Bool) (n : Nat)
  /-- an instance of the class at C, its dict at dx, its attributes -/
  | ins (C dx : Addr) (fs : List (Str × V))
  /-- the dict of the instance at x -/
  | own (x : Addr)
  /-- the dict of an exception -/
  | xd (fs : List (Str × V))
  /-- a bound method, f of x -/
  | met (f x : Addr)
  /-- a range object lo, lo + 1, .. below hi -/
  | rng (lo hi : Int)
  /-- a thing that is known to the object (the script; a dict while a loop walks it): read, never written while it is so -/
  | frz (o : Obj) (u : HO)
  /-- a code object's table -/
  | tbl (ps : Array Value)
  /-- any other thing, by what is true of its one object (a def of one's own: SetO a S n := HO.ext fun h => ..) -/
  | ext (φ : Heap → Prop)

abbrev Hp := Addr → Option HO
def upd (H : Hp) (a : Addr) (o : HO) : Hp := fun b => if b = a then some o else H b
theorem upd_same {H : Hp} {a : Addr} {o : HO} : upd H a o a = some o := by unfold upd; rw [if_pos rfl]
theorem upd_ne {H : Hp} {a b : Addr} {o : HO} (h : b ≠ a) : upd H a o b = H b := by unfold upd; rw [if_neg h]
theorem ne_of_none {H : Hp} {a b : Addr} {o : HO} (h : H a = some o) (h' : H b = none) : a ≠ b := by
  intro e; subst e; rw [h] at h'; cases h'

section
variable (P : Program) (w : World)
def ObjOk (H : Hp) (h : Heap) (a : Addr) : HO → Prop
  | .lst xs => xs.length ≤ sizeLine ∧ ∃ (its : List Value) (n : Nat), Vals xs its ∧ h.get? a = some { cls := .type "list", data := .seq its.toArray n }
  | .tup xs => xs.length ≤ sizeLine ∧ ∃ its : List Value, Vals xs its ∧ IsTup h a its.toArray
  | .dK kvs => kvs.length ≤ sizeLine ∧ (a == sysModules) = false ∧ ∃ vs, KV kvs vs ∧ h.DictOf (mixKind P w) a vs
  | .dT kvs => kvs.length ≤ sizeLine ∧ (a == sysModules) = false ∧ ∃ xs : List (List Key × Addr × Value),
      Paired (fun (p : List Key × V) (q : List Key × Addr × Value) => p.1 = q.1 ∧ H q.2.1 = some (.tup (p.1.map kV)) ∧ RelV p.2 q.2.2) kvs xs ∧
      ∃ o es ep, h.get? a = some o ∧ o.ExactDict ∧ o.data = .dict es ep ∧ es.toList = xs.map (entryOfKey (tupleKind (mixKind P w))) ∧ (xs.map (·.1)).Nodup
  | .set S n => h.SetOf (intKind P w) a S n
  | .ins C dx fs => H dx = some (.own a) ∧ fs.length ≤ 1000 ∧ dx ≠ a ∧ h.get? a = some (PySem.W.instObj C dx) ∧
      ∃ mA, h.Ns1 dx mA ∧ (∀ f, RelO (fs.lookup f) (mA f)) ∧ PySem.Within mA (fs.map (·.1))
  | .own _ => ∃ o, h.get? a = some o
  | .xd fs => ∃ mA, h.Ns1 a mA ∧ ∀ f, RelO (fs.lookup f) (mA f)
  | .rng lo hi => ∃ t u v, h.get? a = some { cls := .type "range", data := .fields #[.int lo t, .int hi u, .int 1 v] }
  | .frz o u => h.get? a = some o ∧ ObjOk H h a u
  | .tbl ps => h.get? a = some { cls := .none, data := .fields ps }
  | .met f x => h.get? a = some (PySem.W.methodObj (.ref f) (.ref x))
  | .ext φ => φ h ∧ (∃ o, h.get? a = some o) ∧ ∀ h1 h2 : Heap, φ h1 → (∀ o, h1.get? a = some o → h2.get? a = some o) → φ h2
def HOk (H : Hp) (h : Heap) : Prop := ∀ a o, H a = some o → ObjOk P w H h a o
end

section
variable {P : Program} {w : World} {H H' : Hp} {h h' : Heap} {a : Addr} {o : HO}
theorem ObjOk.lt (x : ObjOk P w H h a o) : a < h.objs.size := by
  cases o with
  | lst xs => obtain ⟨_, _, _, _, e⟩ := x; exact Heap.lt_size e
  | tup xs => obtain ⟨_, _, _, p⟩ := x; exact p.lt
  | dK kvs => obtain ⟨_, _, _, _, o, _, _, e, _⟩ := x; exact Heap.lt_size e
  | dT kvs => obtain ⟨_, _, _, _, o, _, _, e, _⟩ := x; exact Heap.lt_size e
  | set S n => obtain ⟨o, _, _, _, e, _⟩ := x; exact Heap.lt_size e
  | ins C dx fs => obtain ⟨_, _, _, e, _⟩ := x; exact Heap.lt_size e
  | own y => obtain ⟨_, e⟩ := x; exact Heap.lt_size e
  | xd fs => obtain ⟨_, ⟨_, _, _, e, _⟩, _⟩ := x; exact Heap.lt_size e
  | rng lo hi => obtain ⟨_, _, _, e⟩ := x; exact Heap.lt_size e
  | frz ob u => obtain ⟨e, _⟩ := x; exact Heap.lt_size e
  | tbl ps => exact Heap.lt_size (show h.get? a = some _ from x)
  | met f y => exact Heap.lt_size (show h.get? a = some _ from x)
  | ext φ => obtain ⟨_, ⟨_, e⟩, _⟩ := x; exact Heap.lt_size e
theorem Paired.mapP {α β : Type} {F G : α → β → Prop} : ∀ {l₁ : List α} {l₂ : List β}, Paired F l₁ l₂ → (∀ a b, F a b → G a b) → Paired G l₁ l₂
  | _, _, .nil, _ => .nil
  | _, _, .cons r t, f => .cons (f _ _ r) (Paired.mapP t f)
theorem ObjOk.stay (x : ObjOk P w H h a o) (k : ∀ b u, (b = a ∨ H b = some (.own a)) → h.get? b = some u → h'.get? b = some u)
    (ho : ∀ b, H b = some (.own a) → H' b = some (.own a)) (ht : ∀ b xs, H b = some (.tup xs) → H' b = some (.tup xs)) : ObjOk P w H' h' a o := by
  induction o with
  | lst xs => obtain ⟨z, its, n, r, e⟩ := x; exact ⟨z, its, n, r, k _ _ (.inl rfl) e⟩
  | tup xs => obtain ⟨z, its, r, ob, e, c⟩ := x; exact ⟨z, its, r, ob, k _ _ (.inl rfl) e, c⟩
  | dK kvs => obtain ⟨z, y, vs, r, ob, es, ep, e, c⟩ := x; exact ⟨z, y, vs, r, ob, es, ep, k _ _ (.inl rfl) e, c⟩
  | dT kvs =>
    obtain ⟨z, y, xs, r, ob, es, ep, e, c⟩ := x
    exact ⟨z, y, xs, Paired.mapP r fun p q z => ⟨z.1, ht _ _ z.2.1, z.2.2⟩, ob, es, ep, k _ _ (.inl rfl) e, c⟩
  | set S n => obtain ⟨ob, es, ep, t, e, c⟩ := x; exact ⟨ob, es, ep, t, k _ _ (.inl rfl) e, c⟩
  | ins C dx fs =>
    obtain ⟨d, z, ne, e, mA, ⟨od, es, ep, e2, c⟩, r⟩ := x
    exact ⟨ho _ d, z, ne, k _ _ (.inl rfl) e, mA, ⟨od, es, ep, k _ _ (.inr d) e2, c⟩, r⟩
  | own y => obtain ⟨ob, e⟩ := x; exact ⟨ob, k _ _ (.inl rfl) e⟩
  | xd fs => obtain ⟨mA, ⟨od, es, ep, e, c⟩, r⟩ := x; exact ⟨mA, ⟨od, es, ep, k _ _ (.inl rfl) e, c⟩, r⟩
  | rng lo hi => obtain ⟨t, u, v, e⟩ := x; exact ⟨t, u, v, k _ _ (.inl rfl) e⟩
  | frz ob u ih => obtain ⟨e, q⟩ := x; exact ⟨k _ _ (.inl rfl) e, ih q⟩
  | tbl ps =>
    have e : h.get? a = some { cls := .none, data := .fields ps } := x
    show h'.get? a = some { cls := .none, data := .fields ps }
    exact k a _ (.inl rfl) e
  | met f y =>
    have e : h.get? a = some (PySem.W.methodObj (.ref f) (.ref y)) := x
    show h'.get? a = some (PySem.W.methodObj (.ref f) (.ref y))
    exact k a _ (.inl rfl) e
  | ext φ => obtain ⟨p, ⟨o, e⟩, st⟩ := x; exact ⟨st _ _ p fun o q => k _ _ (.inl rfl) q, ⟨o, k _ _ (.inl rfl) e⟩, st⟩
theorem HOk.lt (x : HOk P w H h) (e : H a = some o) : a < h.objs.size := (x a o e).lt
theorem HOk.fresh (x : HOk P w H h) (e : h.objs.size ≤ a) : H a = none := by
  cases q : H a with
  | none => rfl
  | some u => exact absurd (Nat.lt_of_lt_of_le (x.lt q) e) (Nat.lt_irrefl _)
theorem HOk.kept (x : HOk P w H h) (k : ∀ b u, h.get? b = some u → h'.get? b = some u) : HOk P w H h' := fun a o e =>
  (x a o e).stay (fun b u _ q => k b u q) (fun _ q => q) fun _ _ q => q
theorem HOk.laid (x : HOk P w H h) (k : ∀ b u, h.get? b = some u → h'.get? b = some u) (hp : h.objs.size ≤ a) (new : ObjOk P w (upd H a o) h' a o) : HOk P w (upd H a o) h' := fun b u e => by
  have hn := x.fresh hp
  by_cases hb : b = a
  · subst hb; rw [upd_same] at e; cases e; exact new
  · rw [upd_ne hb] at e
    exact (x b u e).stay (fun c v _ q => k c v q) (fun c q => by rw [upd_ne (ne_of_none q hn)]; exact q) fun c xs q => by rw [upd_ne (ne_of_none q hn)]; exact q
end

def Rd (H : Hp) (a : Addr) (u : HO) : Prop := H a = some u ∨ ∃ o, H a = some (.frz o u)
theorem Rd.ok {P : Program} {w : World} {H : Hp} {h : Heap} {a : Addr} {u : HO} (r : Rd H a u) (x : HOk P w H h) : ObjOk P w H h a u := by
  rcases r with r | ⟨o, r⟩
  · exact x a u r
  · obtain ⟨_, q⟩ := x a _ r
    exact q
def Mut : Option HO → Prop
  | some (.lst _) => True
  | some (.dK _) => True
  | some (.dT _) => True
  | some (.set _ _) => True
  | some (.ins _ _ _) => True
  | some (.ext _) => True
  | _ => False
section
variable {P : Program} {w : World} {H : Hp} {h h' : Heap} {x e : Addr} {o' : HO}
theorem HOk.write (ok : HOk P w H h) (mu : Mut (H x)) (he : e = x ∨ H e = some (.own x)) (k : ∀ b u, b ≠ e → h.get? b = some u → h'.get? b = some u) (heo : ∃ u, h'.get? e = some u)
    (new : ObjOk P w (upd H x o') h' x o') : HOk P w (upd H x o') h' := fun b u q => by
  have nown : ∀ c y, H c = some (.own y) → c ≠ x := fun c y r z => by subst z; rw [r] at mu; exact mu
  have ntup : ∀ c xs, H c = some (.tup xs) → c ≠ x := fun c xs r z => by subst z; rw [r] at mu; exact mu
  by_cases hb : b = x
  · subst hb; rw [upd_same] at q; cases q; exact new
  · rw [upd_ne hb] at q
    by_cases hbe : b = e
    · have q' : H b = some (.own x) := by
        rcases he with z | z
        · exact absurd (hbe.trans z) hb
        · rw [hbe]; exact z
      rw [q] at q'; cases q'
      obtain ⟨v, hv⟩ := heo
      exact ⟨v, by rw [hbe]; exact hv⟩
    · refine (ok b u q).stay (fun c v hc r => k c v ?_ r) (fun c r => by rw [upd_ne (nown c b r)]; exact r) fun c xs r => by rw [upd_ne (ntup c xs r)]; exact r
      rcases hc with rfl | hc
      · exact hbe
      · rintro rfl
        rcases he with z | z
        · exact nown c b hc z
        · rw [hc] at z; cases z; exact hb rfl
end

structure Un (fs ex : List Addr) (H H' : Hp) (h h' : Heap) : Prop where
  keep : ∀ b o, h.get? b = some o → H b = none → b ∉ fs → b ∉ ex → h'.get? b = some o
  slot : ∀ b o, h.get? b = some o → H b = none → b ∈ fs → b ∉ ex → ∃ sl, h'.get? b = some { o with slots := sl }
  free : ∀ b o, h.get? b = some o → H b = none → b ∉ ex → H' b = none
  there : ∀ b o, h.get? b = some o → b ∉ ex → ∃ o', h'.get? b = some o'
  tups : ∀ b xs, H b = some (.tup xs) → H' b = some (.tup xs)
  frzs : ∀ b o u, H b = some (.frz o u) → H' b = some (.frz o u)
  tbls : ∀ b ps, H b = some (.tbl ps) → ∃ more, H' b = some (.tbl (ps ++ more))
section
variable {fs fs' ex ex' : List Addr} {H H1 H2 : Hp} {h h1 h2 h' : Heap} {a x e : Addr} {o : HO}
theorem Un.any (u : Un fs ex H H1 h h1) {b : Addr} {ob : Obj} (q : h.get? b = some ob) (n : H b = none) (hx : b ∉ ex) : ∃ sl, h1.get? b = some { ob with slots := sl } := by
  by_cases hb : b ∈ fs
  · exact u.slot b ob q n hb hx
  · exact ⟨ob.slots, u.keep b ob q n hb hx⟩
theorem Un.kept (k : ∀ b u, h.get? b = some u → h'.get? b = some u) : Un fs ex H H h h' :=
  ⟨fun b ob q _ _ _ => k b ob q, fun b ob q _ _ _ => ⟨ob.slots, k b ob q⟩, fun _ _ _ n _ => n, fun b ob q _ => ⟨ob, k b ob q⟩, fun _ _ q => q, fun _ _ _ q => q, fun _ ps q => ⟨#[], by rw [q]; simp⟩⟩
theorem Un.refl : Un fs ex H H h h := Un.kept fun _ _ q => q
theorem Un.laid (k : ∀ b u, h.get? b = some u → h'.get? b = some u) (hp : h.objs.size ≤ a) (hn : H a = none) : Un fs ex H (upd H a o) h h' where
  keep := fun b u q _ _ _ => k b u q
  slot := fun b u q _ _ _ => ⟨u.slots, k b u q⟩
  free := fun b u q n _ => by rw [upd_ne (Nat.ne_of_lt (Nat.lt_of_lt_of_le (Heap.lt_size q) hp))]; exact n
  there := fun b u q _ => ⟨u, k b u q⟩
  tups := fun b xs q => by rw [upd_ne (ne_of_none q hn)]; exact q
  frzs := fun b u xs q => by rw [upd_ne (ne_of_none q hn)]; exact q
  tbls := fun b ps q => ⟨#[], by rw [upd_ne (ne_of_none q hn), q]; simp⟩
theorem Un.write (mu : Mut (H x)) (he : e = x ∨ H e = some (.own x)) (k : ∀ b u, b ≠ e → h.get? b = some u → h'.get? b = some u) (heo : ∃ u, h'.get? e = some u) : Un fs ex H (upd H x o) h h' := by
  have hx : ∀ b, H b = none → b ≠ x := fun b n z => by subst z; rw [n] at mu; exact mu
  have hb : ∀ b, H b = none → b ≠ e := fun b n z => by
    subst z
    rcases he with r | r
    · exact hx b n r
    · rw [n] at r; cases r
  have hm : ∀ b u, H b = some u → ¬ Mut (some u) → b ≠ x := fun b u q nm z => by subst z; rw [q] at mu; exact nm mu
  refine ⟨fun b u q n _ _ => k b u (hb b n) q, fun b u q n _ _ => ⟨u.slots, k b u (hb b n) q⟩, fun b u q n _ => by rw [upd_ne (hx b n)]; exact n, fun b u q _ => ?_,
    fun b xs q => by rw [upd_ne (hm b _ q fun z => z)]; exact q, fun b u xs q => by rw [upd_ne (hm b _ q fun z => z)]; exact q, fun b ps q => ⟨#[], by rw [upd_ne (hm b _ q fun z => z), q]; simp⟩⟩
  by_cases hbe : b = e
  · subst hbe; exact heo
  · exact ⟨u, k b u hbe q⟩
end

def trk (h : Heap) (H : Hp) : List Addr := (List.range h.objs.size).filter fun a => (H a).isSome
def hidT (h : Heap) (H : Hp) : Heap := PySem.W.hideAll h (trk h H)
theorem hidT_size (h : Heap) (H : Hp) : (hidT h H).objs.size = h.objs.size := PySem.W.hideAll_size _ _
theorem hidT_get {h : Heap} {H : Hp} {b : Addr} {o : Obj} (e : h.get? b = some o) (n : H b = none) : (hidT h H).get? b = some o :=
  PySem.W.hideAll_get _ e fun hm => by
    have q : (H b).isSome = true := (List.mem_filter.mp hm).2
    rw [n] at q; simp at q
theorem of_hidT {h : Heap} {H : Hp} {b : Addr} {o : Obj} (e : (hidT h H).get? b = some o) : h.get? b = some o ∧ H b = none := by
  have e' : h.get? b = some o := PySem.W.of_hideAll (trk h H) e
  refine ⟨e', ?_⟩
  cases q : H b with
  | none => rfl
  | some x =>
    have hm : b ∈ trk h H := List.mem_filter.mpr ⟨List.mem_range.mpr (Heap.lt_size e'), by simp [q]⟩
    have z : (hidT h H).get? b = none := PySem.W.hideAll_none (trk h H) hm
    rw [z] at e; cases e

end L2

namespace L2
open PySem PySem.Spec PyProof.Rows

structure Mod (K : PySem.W.Frag) (mg : Str → Option Value) (base : Heap) : Prop where
  kin : K.In base
  glob : base.Ns mainGlobals mg
  blt : ∃ mb, base.Ns builtinsNs mb ∧ ∀ x : Str, x ≠ "__name__" → mb x = bootBuiltins x
  nolimit : base.NoLimit

structure Cx where
  prog : Program
  w : World
  K : PySem.W.Frag
  mg : Str → Option Value
  base : Heap
  A : Around
  N : List Str
  s₀ : Shared
  H₀ : Hp
  env : Env
  outer : List Env
  stack : List Env
  ex : List Addr
  fn : Str → Bool
  calm : Bool
  pn : List (Addr × Obj)
  xe : Value → Shared → Prop
def frs (l : List Env) : List Addr := l.filterMap (·.frame)
abbrev Cx.fs (X : Cx) : List Addr := frs X.outer

def Vis (sc : Scope) (x : Str) : Prop := sc.names.lookup x = some .local ∨ sc.names.lookup x = some .cell ∨ sc.names.lookup x = some .free
def Loc (sc : Scope) (x : Str) : Prop := sc.names.lookup x = some .local ∨ sc.names.lookup x = some .cell
def Look (env : Env) (h : Heap) (m : Str → Option Value) (x : Str) (u : Value) : Prop :=
  (env.kindOf x = some .local ∧ m x = some u) ∨ ((env.kindOf x = some .cell ∨ env.kindOf x = some .free) ∧ ∃ c, env.cells.lookup x = some c ∧ h.IsCell c (some u))

structure Cx.Ok (X : Cx) : Prop where
  mod : Mod X.K X.mg X.base
  kind : X.env.scope.kind = .function
  glob : X.env.globals = mainGlobals
  blt : X.env.builtins = builtinsNs
  above : X.s₀.heap.objs.size ≤ X.env.locals
  inj : ∀ x y c, X.env.cells.lookup x = some c → X.env.cells.lookup y = some c → x = y
  has : ∀ x, (X.env.kindOf x = some .cell ∨ X.env.kindOf x = some .free) → ∃ c, X.env.cells.lookup x = some c
  cab : ∀ x c, X.fn x = true → X.env.cells.lookup x = some c → X.s₀.heap.objs.size ≤ c
  hd : X.calm = true → X.A.handled = none
  frames : X.A.frames = some X.stack
  stk : X.stack = X.outer ∨ (X.stack = X.env :: X.outer ∧ X.env.frame = some X.env.locals)
  exf : ∀ b ∈ X.ex, b ≠ X.env.locals ∧ ∀ x c, X.env.cells.lookup x = some c → c ≠ b
  bs : ∀ b o, X.base.get? b = some o → X.s₀.heap.get? b = some o ∧ X.H₀ b = none
  bsz : X.base.objs.size ≤ X.s₀.heap.objs.size
  noex : ∀ b o, X.base.get? b = some o → b ∉ X.ex
  exfs : ∀ b ∈ X.ex, b ∉ X.fs
  funs : X.s₀.heap.FunFrames X.base X.outer
  frf : ∀ b ∈ X.fs, X.H₀ b = none

structure Inv (X : Cx) (pins : List (Addr × Obj)) (σ : List (Option V)) (H : Hp) (s : Shared) : Prop where
  ok : X.Ok
  os : s.os = X.s₀.os
  bare : AllBare s.gens
  base : Un X.fs X.ex X.H₀ H X.s₀.heap s.heap
  loc : ∃ m, s.heap.Ns X.env.locals m ∧ ∀ (i : Nat) (x : Str) (v : V), X.N[i]? = some x → σ[i]? = some (some v) → Vis X.env.scope x → ∃ u, RelV v u ∧ Look X.env s.heap m x u
  cell : ∀ x c, X.env.cells.lookup x = some c → ∃ v, s.heap.IsCell c v
  free : H X.env.locals = none
  freeC : ∀ x c, X.env.cells.lookup x = some c → H c = none
  pin : ∀ p ∈ X.pn ++ pins, s.heap.get? p.1 = some p.2 ∧ H p.1 = none ∧ p.1 ≠ X.env.locals ∧ p.1 ∉ X.fs ∧ ∀ v, p.2.data ≠ .cell v
  hok : HOk X.prog X.w H s.heap
  len : σ.length = X.N.length

section
variable {X : Cx} {pins : List (Addr × Obj)} {σ : List (Option V)} {H H' : Hp} {s : Shared} {h' : Heap}

theorem Cx.Ok.nofr (ok : X.Ok) {b : Addr} {o : Obj} (e : X.base.get? b = some o) : b ∉ X.fs := fun hb => by
  have := (ok.funs.mem hb).1
  rw [e] at this; cases this
theorem Inv.bs (I : Inv X pins σ H s) : ∀ b o, X.base.get? b = some o → s.heap.get? b = some o ∧ H b = none := fun b o e =>
  ⟨I.base.keep b o (I.ok.bs b o e).1 (I.ok.bs b o e).2 (I.ok.nofr e) (I.ok.noex b o e), I.base.free b o (I.ok.bs b o e).1 (I.ok.bs b o e).2 (I.ok.noex b o e)⟩
theorem Inv.bk (I : Inv X pins σ H s) : ∀ b o, X.base.get? b = some o → s.heap.get? b = some o := fun b o e => (I.bs b o e).1
theorem Inv.mod (I : Inv X pins σ H s) : Mod X.K X.mg X.base := I.ok.mod
theorem Inv.kIn (I : Inv X pins σ H s) : X.K.In s.heap := I.ok.mod.kin.keeps I.bk
theorem Inv.lt (I : Inv X pins σ H s) : X.env.locals < s.heap.objs.size := let ⟨_, hn, _⟩ := I.loc; hn.lt
theorem Inv.sz (I : Inv X pins σ H s) : X.s₀.heap.objs.size ≤ s.heap.objs.size := Nat.le_trans I.ok.above (Nat.le_of_lt I.lt)
theorem Inv.nofs (I : Inv X pins σ H s) {a : Addr} (h : s.heap.objs.size ≤ a) : a ∉ X.fs := fun hb => by
  obtain ⟨_, o, ho, _⟩ := I.ok.funs.mem hb
  exact absurd (Nat.lt_of_lt_of_le (Heap.lt_size ho) (Nat.le_trans I.sz h)) (Nat.lt_irrefl _)
theorem Inv.cne (I : Inv X pins σ H s) : ∀ x c, X.env.cells.lookup x = some c → c ≠ X.env.locals := fun x c e z => by
  obtain ⟨v, o, ho, hd⟩ := I.cell x c e
  obtain ⟨m, ⟨o', es, ep, ho', hd', _⟩, _⟩ := I.loc
  rw [z, ho'] at ho; cases ho; rw [hd'] at hd; cases hd
theorem Inv.funs (I : Inv X pins σ H s) : s.heap.FunFrames X.base X.outer := by
  have all : ∀ (l : List Env), (∀ b ∈ frs l, b ∈ X.fs) → X.s₀.heap.FunFrames X.base l → s.heap.FunFrames X.base l := by
    intro l
    induction l with
    | nil => intro _ _; trivial
    | cons env r ih =>
      intro hs hl
      obtain ⟨hk, ⟨L, o, hf, hn, ho, hd⟩, hr⟩ := hl
      have hL : L ∈ X.fs := hs L (by unfold frs; rw [List.filterMap_cons, hf]; exact List.mem_cons_self)
      obtain ⟨sl, e⟩ := I.base.slot L o ho (I.ok.frf L hL) hL fun z => I.ok.exfs L z hL
      exact ⟨hk, ⟨L, _, hf, hn, e, hd⟩, ih (fun b hb => hs b (by unfold frs; rw [List.filterMap_cons, hf]; exact List.mem_cons_of_mem _ hb)) hr⟩
  exact all X.outer (fun _ hb => hb) I.ok.funs

theorem Inv.stack (I : Inv X pins σ H s) : s.heap.FunFrames X.base X.stack := by
  rcases I.ok.stk with e | ⟨e, hf⟩
  · rw [e]; exact I.funs
  · rw [e]
    obtain ⟨m, hn, _⟩ := I.loc
    refine .cons (by rw [I.ok.kind]; decide) hf hn ?_ I.funs
    exact Heap.get?_none_of_le (Nat.le_trans I.ok.bsz I.ok.above)
theorem Inv.stkSub (I : Inv X pins σ H s) : ∀ b ∈ frs X.stack, b ∈ X.env.locals :: X.fs := fun b hb => by
  rcases I.ok.stk with e | ⟨e, hf⟩
  · rw [e] at hb; exact List.mem_cons_of_mem _ hb
  · rw [e] at hb
    unfold frs at hb
    rw [List.filterMap_cons, hf] at hb
    exact hb
theorem Inv.stkFree (I : Inv X pins σ H s) : ∀ b ∈ frs X.stack, H b = none := fun b hb => by
  rcases List.mem_cons.mp (I.stkSub b hb) with e | hb
  · rw [e]; exact I.free
  · obtain ⟨_, o, ho, _⟩ := I.ok.funs.mem hb
    exact I.base.free b o ho (I.ok.frf b hb) fun z => I.ok.exfs b z hb

theorem Inv.step {g' : Array GenState} {t' : Nat} {d' : Drawn} {ch : List Addr} (I : Inv X pins σ H s)
    (hch : ∀ b ∈ ch, (b ∈ X.ex ∨ X.s₀.heap.objs.size ≤ b) ∧ b ≠ X.env.locals ∧ (∀ x c, X.env.cells.lookup x = some c → c ≠ b) ∧ ∀ p ∈ X.pn ++ pins, p.1 ≠ b)
    (keep : ∀ b o, b ≠ X.env.locals → b ∉ X.fs → b ∉ ch → s.heap.get? b = some o → H b = none → h'.get? b = some o)
    (slot : ∀ b o, b ≠ X.env.locals → b ∈ X.fs → b ∉ ch → s.heap.get? b = some o → H b = none → ∃ sl, h'.get? b = some { o with slots := sl }) (free : ∀ b o, b ∉ ch → s.heap.get? b = some o → H b = none → H' b = none)
    (there : ∀ b o, b ∉ ch → s.heap.get? b = some o → ∃ o', h'.get? b = some o')
    (tups : ∀ b xs, H b = some (.tup xs) → H' b = some (.tup xs)) (frzs : ∀ b o u, H b = some (.frz o u) → H' b = some (.frz o u)) (tbls : ∀ b ps, H b = some (.tbl ps) → ∃ more, H' b = some (.tbl (ps ++ more)))
    (ns : ∀ m, s.heap.Ns X.env.locals m → h'.Ns X.env.locals m) (hok : HOk X.prog X.w H' h') (hg : AllBare g') :
    Inv X pins σ H' { s with heap := h', gens := g', drawn := d', toks := t' } := by
  have neL : ∀ b o, X.s₀.heap.get? b = some o → b ≠ X.env.locals := fun b o e => Nat.ne_of_lt (Nat.lt_of_lt_of_le (Heap.lt_size e) I.ok.above)
  have neC : ∀ b o, X.s₀.heap.get? b = some o → b ∉ X.ex → b ∉ ch := fun b o e hx hb => by
    rcases (hch b hb).1 with z | z
    · exact hx z
    · exact absurd (Nat.lt_of_lt_of_le (Heap.lt_size e) z) (Nat.lt_irrefl _)
  have cellK : ∀ x c, X.env.cells.lookup x = some c → ∀ v, s.heap.IsCell c v → h'.IsCell c v := fun x c e v ⟨o, ho, hd⟩ => by
    have nch : c ∉ ch := fun z => (hch c z).2.2.1 x c e rfl
    by_cases hc : c ∈ X.fs
    · obtain ⟨sl, q⟩ := slot c o (I.cne x c e) hc nch ho (I.freeC x c e)
      exact ⟨_, q, hd⟩
    · exact ⟨o, keep c o (I.cne x c e) hc nch ho (I.freeC x c e), hd⟩
  refine ⟨I.ok, I.os, hg, ⟨fun b o e n hb hx => ?_, fun b o e n hb hx => ?_, fun b o e n hx => ?_, fun b o e hx => ?_, fun b xs e => tups b xs (I.base.tups b xs e), fun b o xs e => frzs b o xs (I.base.frzs b o xs e), fun b ps e => ?_⟩, ?_, fun x c e => ?_, ?_, fun x c e => ?_, fun p hp => ?_, hok, I.len⟩
  · exact keep b o (neL b o e) hb (neC b o e hx) (I.base.keep b o e n hb hx) (I.base.free b o e n hx)
  · obtain ⟨sl, e1⟩ := I.base.slot b o e n hb hx
    obtain ⟨sl', e2⟩ := slot b _ (neL b o e) hb (neC b o e hx) e1 (I.base.free b o e n hx)
    exact ⟨sl', e2⟩
  · obtain ⟨o', e1⟩ := I.base.there b o e hx
    exact free b o' (neC b o e hx) e1 (I.base.free b o e n hx)
  · obtain ⟨o', e1⟩ := I.base.there b o e hx
    exact there b o' (neC b o e hx) e1
  · obtain ⟨m1, e1⟩ := I.base.tbls b ps e
    obtain ⟨m2, e2⟩ := tbls b _ e1
    exact ⟨m1 ++ m2, by rw [e2, Array.append_assoc]⟩
  · obtain ⟨m, hn, hl⟩ := I.loc
    refine ⟨m, ns m hn, fun i x v e1 e2 e3 => ?_⟩
    obtain ⟨u, r, l⟩ := hl i x v e1 e2 e3
    refine ⟨u, r, ?_⟩
    rcases l with l | ⟨k, c, e, z⟩
    · exact .inl l
    · exact .inr ⟨k, c, e, cellK x c e _ z⟩
  · obtain ⟨v, z⟩ := I.cell x c e
    exact ⟨v, cellK x c e v z⟩
  · obtain ⟨m, ⟨o, _, _, ho, _⟩, _⟩ := I.loc
    exact free _ o (fun z => (hch _ z).2.1 rfl) ho I.free
  · obtain ⟨v, o, ho, hd⟩ := I.cell x c e
    exact free c o (fun z => (hch c z).2.2.1 x c e rfl) ho (I.freeC x c e)
  · obtain ⟨e, n, ne, nf, d⟩ := I.pin p hp
    have nch : p.1 ∉ ch := fun z => (hch p.1 z).2.2.2 p hp rfl
    exact ⟨keep p.1 p.2 ne nf nch e n, free p.1 p.2 nch e n, ne, nf, d⟩
theorem Inv.un {t' : Nat} (I : Inv X pins σ H s) (u : Un X.fs [] H H' s.heap h') (hok : HOk X.prog X.w H' h') : Inv X pins σ H' { s with heap := h', toks := t' } := by
  obtain ⟨m, ⟨o, es, ep, ho, r⟩, _⟩ := id I.loc
  obtain ⟨sl, hL⟩ := u.any ho I.free (by simp)
  exact I.step (g' := s.gens) (d' := s.drawn) (ch := []) (fun _ z => nomatch z) (fun b o _ hb _ e n => u.keep b o e n hb (by simp)) (fun b o _ hb _ e n => u.slot b o e n hb (by simp)) (fun b o _ e n => u.free b o e n (by simp)) (fun b o _ e => u.there b o e (by simp)) u.tups u.frzs u.tbls (fun m' hm => by
    obtain ⟨o', es', ep', ho', r'⟩ := hm
    rw [ho] at ho'; cases ho'
    exact ⟨_, es', ep', hL, r'⟩) hok I.bare
theorem Inv.call {g' : Array GenState} {t' : Nat} {d' : Drawn} {ch : List Addr} (I : Inv X pins σ H s) (u : Un (frs X.stack) ch H H' s.heap h') (hok : HOk X.prog X.w H' h') (hg : AllBare g')
    (hch : ∀ b ∈ ch, (b ∈ X.ex ∨ X.s₀.heap.objs.size ≤ b) ∧ b ≠ X.env.locals ∧ (∀ x c, X.env.cells.lookup x = some c → c ≠ b) ∧ ∀ p ∈ X.pn ++ pins, p.1 ≠ b) :
    Inv X pins σ H' { s with heap := h', gens := g', drawn := d', toks := t' } := by
  obtain ⟨m, ⟨o, es, ep, ho, r⟩, _⟩ := id I.loc
  obtain ⟨sl, hL⟩ := u.any ho I.free fun z => (hch _ z).2.1 rfl
  exact I.step (ch := ch) hch (fun b o hL hb hc e n => u.keep b o e n (fun z => (List.mem_cons.mp (I.stkSub b z)).elim hL hb) hc) (fun b o _ _ hc e n => u.any e n hc) (fun b o hc e n => u.free b o e n hc) (fun b o hc e => u.there b o e hc) u.tups u.frzs u.tbls (fun m' hm => by
    obtain ⟨o', es', ep', ho', r'⟩ := hm
    rw [ho] at ho'; cases ho'
    exact ⟨_, es', ep', hL, r'⟩) hok hg
theorem Inv.turned {t' : Nat} {it : Addr} (I : Inv X pins σ H s) (k : ∀ b o, b ≠ it → s.heap.get? b = some o → h'.get? b = some o) (hn : H it = none) (hL : it ≠ X.env.locals)
    (h1 : it ∈ X.ex ∨ X.s₀.heap.objs.size ≤ it) (h2 : ∀ x c, X.env.cells.lookup x = some c → c ≠ it) (h3 : ∀ p ∈ X.pn ++ pins, p.1 ≠ it) : Inv X pins σ H { s with heap := h', toks := t' } := by
  have nit : ∀ b u, H b = some u → b ≠ it := fun b u e z => by rw [z, hn] at e; cases e
  refine I.step (g' := s.gens) (d' := s.drawn) (ch := [it]) (fun b hb => ?_) (fun b o _ _ hc e _ => k b o (fun z => hc (by simp [z])) e) (fun b o _ _ hc e _ => ⟨o.slots, k b o (fun z => hc (by simp [z])) e⟩) (fun _ _ _ _ n => n)
    (fun b o hc e => ⟨o, k b o (fun z => hc (by simp [z])) e⟩) (fun _ _ e => e) (fun _ _ _ e => e) (fun b ps e => ⟨#[], by rw [e]; simp⟩) (fun m hm => ?_) (fun b u e => ?_) I.bare
  · have e : b = it := by simpa using hb
    subst e
    exact ⟨h1, hL, h2, h3⟩
  · obtain ⟨o, es, ep, ho, r⟩ := hm
    exact ⟨o, es, ep, k _ o (Ne.symm hL) ho, r⟩
  · refine (I.hok b u e).stay (fun c v hc q => k c v ?_ q) (fun _ q => q) fun _ _ q => q
    rcases hc with z | z
    · rw [z]; exact nit b u e
    · exact nit c _ z
theorem Inv.tok (I : Inv X pins σ H s) (t : Nat) : Inv X pins σ H { s with toks := t } := I.un (h' := s.heap) (t' := t) Un.refl I.hok
theorem Inv.kept {t' : Nat} (I : Inv X pins σ H s) (k : ∀ b u, s.heap.get? b = some u → h'.get? b = some u) : Inv X pins σ H { s with heap := h', toks := t' } := I.un (Un.kept k) (I.hok.kept k)
theorem Inv.laid {a : Addr} {o : HO} {t' : Nat} (I : Inv X pins σ H s) (k : ∀ b u, s.heap.get? b = some u → h'.get? b = some u) (hp : s.heap.objs.size ≤ a) (new : ObjOk X.prog X.w (upd H a o) h' a o) :
    Inv X pins σ (upd H a o) { s with heap := h', toks := t' } := I.un (Un.laid k hp (I.hok.fresh hp)) (I.hok.laid k hp new)
theorem Inv.write {x e : Addr} {o : HO} {t' : Nat} (I : Inv X pins σ H s) (mu : Mut (H x)) (he : e = x ∨ H e = some (.own x)) (k : ∀ b u, b ≠ e → s.heap.get? b = some u → h'.get? b = some u) (heo : ∃ u, h'.get? e = some u)
    (new : ObjOk X.prog X.w (upd H x o) h' x o) : Inv X pins σ (upd H x o) { s with heap := h', toks := t' } := I.un (Un.write mu he k heo) (I.hok.write mu he k heo new)
theorem Inv.pins_of {pins' : List (Addr × Obj)} (I : Inv X pins σ H s) (h : ∀ p ∈ pins', s.heap.get? p.1 = some p.2 ∧ H p.1 = none ∧ p.1 ≠ X.env.locals ∧ p.1 ∉ X.fs ∧ ∀ v, p.2.data ≠ .cell v) : Inv X pins' σ H s :=
  ⟨I.ok, I.os, I.bare, I.base, I.loc, I.cell, I.free, I.freeC, fun p hp => (List.mem_append.mp hp).elim (fun z => I.pin p (List.mem_append_left _ z)) (h p), I.hok, I.len⟩

theorem nodup_ix {N : List Str} (hN : N.Nodup) {i j : Nat} {x : Str} (a : N[i]? = some x) (b : N[j]? = some x) : i = j := by
  obtain ⟨h1, e1⟩ := List.getElem?_eq_some_iff.mp a
  obtain ⟨h2, e2⟩ := List.getElem?_eq_some_iff.mp b
  exact (List.getElem_inj hN).mp (e1.trans e2.symm)

theorem store_ok2 {M : Model} {A : Around} {E : Value → Shared → Prop} {i : Nat} {x : Str} {v : V} {u : Value} {Q : Unit → Shared → Prop} (I : Inv X pins σ H s) (hN : X.N.Nodup) (hi : X.N[i]? = some x) (hx : Loc X.env.scope x) (r : RelV v u)
    (h : ∀ s', Inv X pins (σ.set i (some v)) H s' → (∃ a, Heap.SameBut a s.heap s'.heap ∧ (a = X.env.locals ∨ X.env.cells.lookup x = some a)) → Q () s') (hf : X.fn x = true ∨ X.env.scope.names.lookup x = some .local := by first | exact .inl rfl | exact .inr rfl | assumption) : wpAny M A (storeName X.env x u) Q E s := by
  obtain ⟨m, hn, hl⟩ := id I.loc
  have hcls : (X.env.scope.kind == .class || (X.env.scope.kind == .module && X.env.locals != X.env.globals)) = false := by rw [I.ok.kind]; rfl
  have hiσ : i < σ.length := by rw [I.len]; exact (List.getElem?_eq_some_iff.mp hi).1
  have cne := I.cne
  have tracked : ∀ {a : Addr} {h' : Heap}, (∃ o, s.heap.get? a = some o ∧ H a = none) → Heap.SameBut a s.heap h' → HOk X.prog X.w H h' := fun {a h'} ha hs b ob e => by
    obtain ⟨_, _, hfree⟩ := ha
    refine (I.hok b ob e).stay (fun c w' hc q => (hs.2 c ?_).trans q) (fun _ q => q) fun _ _ q => q
    rintro rfl
    rcases hc with rfl | hc
    · rw [hfree] at e; cases e
    · rw [hfree] at hc; cases hc
  rcases hx with hk | hk
  · refine wpAny_storeName_local hk hn (fun h' hn' hs => ?_) hcls
    obtain ⟨oL, _, _, hoL, _⟩ := id hn
    refine h _ ⟨I.ok, I.os, I.bare, ⟨fun b o e n hb hx => ?_, fun b o e n hb hx => ?_, I.base.free, fun b o e hx => ?_, I.base.tups, I.base.frzs, I.base.tbls⟩, ⟨_, hn', fun j y v' e1 e2 e3 => ?_⟩, fun y c e => ?_, I.free, I.freeC, fun p hp => ?_, tracked ⟨oL, hoL, I.free⟩ hs, by simpa using I.len⟩ ⟨_, hs, .inl rfl⟩
    · exact (hs.2 b (Nat.ne_of_lt (Nat.lt_of_lt_of_le (Heap.lt_size e) I.ok.above))).trans (I.base.keep b o e n hb hx)
    · obtain ⟨sl, e1⟩ := I.base.slot b o e n hb hx
      exact ⟨sl, (hs.2 b (Nat.ne_of_lt (Nat.lt_of_lt_of_le (Heap.lt_size e) I.ok.above))).trans e1⟩
    · obtain ⟨o', e1⟩ := I.base.there b o e hx
      exact ⟨o', (hs.2 b (Nat.ne_of_lt (Nat.lt_of_lt_of_le (Heap.lt_size e) I.ok.above))).trans e1⟩
    · by_cases hj : j = i
      · subst hj
        rw [hi] at e1; cases e1
        rw [List.getElem?_set_self hiσ] at e2
        cases e2
        exact ⟨u, r, .inl ⟨hk, by simp⟩⟩
      · rw [List.getElem?_set_ne (Ne.symm hj)] at e2
        obtain ⟨u', r', q⟩ := hl j y v' e1 e2 e3
        refine ⟨u', r', ?_⟩
        rcases q with ⟨k, e⟩ | ⟨k, c, e, z⟩
        · refine .inl ⟨k, ?_⟩
          have : y ≠ x := fun e => hj (nodup_ix hN e1 (e ▸ hi))
          simp [this, e]
        · exact .inr ⟨k, c, e, z.sameBut hs (cne y c e)⟩
    · obtain ⟨w', z⟩ := I.cell y c e
      exact ⟨w', z.sameBut hs (cne y c e)⟩
    · obtain ⟨e, n, ne, nf, d⟩ := I.pin p hp
      exact ⟨(hs.2 p.1 ne).trans e, n, ne, nf, d⟩
  · have hfn : X.fn x = true := by
      rcases hf with z | z
      · exact z
      · rw [z] at hk; cases hk
    obtain ⟨c, hc⟩ := I.ok.has x (.inl hk)
    obtain ⟨w', z⟩ := I.cell x c hc
    refine wpAny_storeName_cell I.ok.kind hk hc z (fun h' hc' hs => ?_)
    obtain ⟨oc, hoc, hocd⟩ := id z
    refine h { s with heap := h' } ⟨I.ok, I.os, I.bare, ⟨fun b o e n hb hx => ?_, fun b o e n hb hx => ?_, I.base.free, fun b o e hx => ?_, I.base.tups, I.base.frzs, I.base.tbls⟩, ⟨m, hn.sameBut hs (Ne.symm (cne x c hc)), fun j y v' e1 e2 e3 => ?_⟩, fun y c' e => ?_, I.free, I.freeC, fun p hp => ?_, tracked ⟨oc, hoc, I.freeC x c hc⟩ hs, by simpa using I.len⟩ ⟨c, hs, .inr hc⟩
    · exact (hs.2 b (Nat.ne_of_lt (Nat.lt_of_lt_of_le (Heap.lt_size e) (I.ok.cab x c hfn hc)))).trans (I.base.keep b o e n hb hx)
    · obtain ⟨sl, e1⟩ := I.base.slot b o e n hb hx
      exact ⟨sl, (hs.2 b (Nat.ne_of_lt (Nat.lt_of_lt_of_le (Heap.lt_size e) (I.ok.cab x c hfn hc)))).trans e1⟩
    · obtain ⟨o', e1⟩ := I.base.there b o e hx
      exact ⟨o', (hs.2 b (Nat.ne_of_lt (Nat.lt_of_lt_of_le (Heap.lt_size e) (I.ok.cab x c hfn hc)))).trans e1⟩
    · by_cases hj : j = i
      · subst hj
        rw [hi] at e1; cases e1
        rw [List.getElem?_set_self hiσ] at e2
        cases e2
        exact ⟨u, r, .inr ⟨.inl hk, c, hc, hc'⟩⟩
      · rw [List.getElem?_set_ne (Ne.symm hj)] at e2
        obtain ⟨u', r', q⟩ := hl j y v' e1 e2 e3
        refine ⟨u', r', ?_⟩
        rcases q with q | ⟨k, c', e, z'⟩
        · exact .inl q
        · refine .inr ⟨k, c', e, z'.sameBut hs ?_⟩
          rintro rfl
          exact hj (nodup_ix hN e1 (I.ok.inj _ _ _ e hc ▸ hi))
    · by_cases hcc : c' = c
      · subst hcc; exact ⟨_, hc'⟩
      · obtain ⟨w2, z2⟩ := I.cell y c' e
        exact ⟨w2, z2.sameBut hs hcc⟩
    · obtain ⟨e, n, ne, nf, d⟩ := I.pin p hp
      refine ⟨(hs.2 p.1 ?_).trans e, n, ne, nf, d⟩
      intro q
      rw [q, hoc] at e
      have q' : oc = p.2 := Option.some.inj e
      exact d w' (by rw [← q']; exact hocd)
theorem store_ok {M : Model} {A : Around} {E : Value → Shared → Prop} {i : Nat} {x : Str} {v : V} {u : Value} {Q : Unit → Shared → Prop} (I : Inv X pins σ H s) (hN : X.N.Nodup) (hi : X.N[i]? = some x) (hx : Loc X.env.scope x) (r : RelV v u)
    (h : ∀ s', Inv X pins (σ.set i (some v)) H s' → Q () s') (hf : X.fn x = true ∨ X.env.scope.names.lookup x = some .local := by first | exact .inl rfl | exact .inr rfl | assumption) : wpAny M A (storeName X.env x u) Q E s :=
  store_ok2 I hN hi hx r (fun s' I' _ => h s' I') hf
theorem Inv.call' {s' : Shared} {ch : List Addr} (I : Inv X pins σ H s) (ho : s'.os = s.os) (u : Un (frs X.stack) ch H H' s.heap s'.heap) (hok : HOk X.prog X.w H' s'.heap) (hg : AllBare s'.gens)
    (hch : ∀ b ∈ ch, (b ∈ X.ex ∨ X.s₀.heap.objs.size ≤ b) ∧ b ≠ X.env.locals ∧ (∀ x c, X.env.cells.lookup x = some c → c ≠ b) ∧ ∀ p ∈ X.pn ++ pins, p.1 ≠ b) : Inv X pins σ H' s' := by
  obtain ⟨h', g', d', t', o'⟩ := s'
  have e : o' = s.os := ho
  subst e
  exact I.call (g' := g') (t' := t') (d' := d') u hok hg hch
end

abbrev XK := Value → Option Addr → Hp → Prop
abbrev St := List (Option V)
abbrev VK := V → Hp → Prop
abbrev TE := St → Hp → VK → Prop
abbrev TT := St → Hp → (Bool → Hp → Prop) → Prop
abbrev TA := St → Hp → (List V → Hp → Prop) → Prop
structure Ends where
  nx : St → Hp → Prop
  rt : VK
  bk : St → Hp → Prop := fun _ _ => False
  ct : St → Hp → Prop := fun _ _ => False
abbrev TS := Ends → St → Hp → Prop

def EP (X : Cx) (pins : List (Addr × Obj)) (σ : St) (Q : VK) (u : Value) (s' : Shared) : Prop := ∃ v H', Inv X pins σ H' s' ∧ RelV v u ∧ Q v H'
def TP (X : Cx) (pins : List (Addr × Obj)) (σ : St) (Q : Bool → Hp → Prop) (b : Bool) (s' : Shared) : Prop := ∃ H', Inv X pins σ H' s' ∧ Q b H'
def AP (X : Cx) (pins : List (Addr × Obj)) (σ : St) (Q : List V → Hp → Prop) (us : List Value) (s' : Shared) : Prop := ∃ vs H', Inv X pins σ H' s' ∧ Vals vs us ∧ Q vs H'
def SP (X : Cx) (pins : List (Addr × Obj)) (D : Ends) (f : Flow) (s' : Shared) : Prop :=
  match f with
  | .next => ∃ σ' H', Inv X pins σ' H' s' ∧ D.nx σ' H'
  | .brk => ∃ σ' H', Inv X pins σ' H' s' ∧ D.bk σ' H'
  | .cont => ∃ σ' H', Inv X pins σ' H' s' ∧ D.ct σ' H'
  | .ret u => ∃ v σ' H', Inv X pins σ' H' s' ∧ RelV v u ∧ D.rt v H'

def PE (X : Cx) (e : Expr) (t : TE) : Prop :=
  ∀ (pins : List (Addr × Obj)) (s : Shared) (σ : St) (H : Hp) (Q : VK), Inv X pins σ H s → t σ H Q → wpAny (model X.prog X.w) X.A (eval e X.env) (EP X pins σ Q) X.xe s
def PT (X : Cx) (e : Expr) (t : TT) : Prop :=
  ∀ (pins : List (Addr × Obj)) (s : Shared) (σ : St) (H : Hp) (Q : Bool → Hp → Prop), Inv X pins σ H s → t σ H Q → wpAny (model X.prog X.w) X.A (isTrue e X.env (eval e X.env)) (TP X pins σ Q) X.xe s
def PW (X : Cx) (e : Expr) (t : TT) : Prop :=
  ∀ (whole : Sem Value) (pins : List (Addr × Obj)) (s : Shared) (σ : St) (H : Hp) (Q : Bool → Hp → Prop), Inv X pins σ H s → t σ H Q → wpAny (model X.prog X.w) X.A (isTrue e X.env whole) (TP X pins σ Q) X.xe s
theorem PW.pt {X : Cx} {e : Expr} {t : TT} (h : PW X e t) : PT X e t := h _
def PA (X : Cx) (es : List Expr) (t : TA) : Prop :=
  ∀ (pos : Pos) (pins : List (Addr × Obj)) (s : Shared) (σ : St) (H : Hp) (Q : List V → Hp → Prop), Inv X pins σ H s → t σ H Q → wpAny (model X.prog X.w) X.A (spliced (backTo pos (starEach es X.env))) (AP X pins σ Q) X.xe s
def PS (X : Cx) (st : Stmt) (t : TS) : Prop :=
  ∀ (pins : List (Addr × Obj)) (s : Shared) (σ : St) (H : Hp) (D : Ends), Inv X pins σ H s → t D σ H → wpAny (model X.prog X.w) X.A (exec st X.env) (SP X pins D) X.xe s
def PSs (X : Cx) (st : List Stmt) (t : TS) : Prop :=
  ∀ (pins : List (Addr × Obj)) (s : Shared) (σ : St) (H : Hp) (D : Ends), Inv X pins σ H s → t D σ H → wpAny (model X.prog X.w) X.A (execs st X.env) (SP X pins D) X.xe s
theorem thn {α : Type} {t : Sem α} {Q Q' : α → Shared → Prop} {M : Model} {A : Around} {E : Value → Shared → Prop} {s : Shared} (h : wpAny M A t Q E s) (hQ : ∀ a s, Q a s → Q' a s) : wpAny M A t Q' E s := wpAny_mono h hQ fun _ _ x => x
end L2

namespace L2
open PySem PySem.Spec PyProof.Rows
section
variable {X : Cx}

def tVar (i : Nat) : TE := fun σ H Q => ∃ v, σ[i]? = some (some v) ∧ Q v H
def tC (v : V) : TE := fun _ H Q => Q v H
theorem pe_var {i : Nat} {x : Str} {pos : Pos} (hN : X.N[i]? = some x) (hv : Vis X.env.scope x) (hd : (x == ("__debug__" : Str)) = false := by decide) (hcd : (x == ("__classdict__" : Str)) = false := by decide) : PE X (.Name x pos) (tVar i) := by
  intro pins s σ H Q I h
  obtain ⟨v, e, h⟩ := h
  obtain ⟨m, hn, hl⟩ := I.loc
  obtain ⟨u, r, l⟩ := hl i x v hN e hv
  have fin : EP X pins σ Q u s := ⟨v, H, I, r, h⟩
  rcases l with ⟨hk, hm⟩ | ⟨hk, c, hc, hcell⟩
  · exact wpAny_Name (wpAny_loadName_local I.ok.kind hk hn hm fin) hd
  · rcases hk with hk | hk
    · exact wpAny_Name (wpAny_loadName_cell I.ok.kind hk hc hcell fin) hd
    · exact wpAny_Name (wpAny_loadName_free I.ok.kind hk hc hcell fin hcd) hd
theorem pe_int {i j pos} : PE X (.Constant (.int i) j pos) (tC (.int i)) := fun _ _ _ H _ I h => wpAny_Constant_int ⟨.int i, H, I.tok _, ⟨_, rfl⟩, h⟩
theorem pe_bl {b j pos} : PE X (.Constant (.bool b) j pos) (tC (.bl b)) := fun _ _ _ H _ I h => Constant_bool ⟨.bl b, H, I, rfl, h⟩
theorem pe_str {x j pos} : PE X (.Constant (.str x) j pos) (tC (.str x)) := fun _ _ _ H _ I h => Calls.Constant_str ⟨.str x, H, I.tok _, ⟨_, rfl⟩, h⟩

def Gl (X : Cx) (x : Str) : Prop := X.env.kindOf x = some .globalImplicit
theorem ld_glob {E : Value → Shared → Prop} {pins : List (Addr × Obj)} {s : Shared} {σ : St} {H : Hp} {x : Str} {u : Value} {pos : Pos} {Q : Value → Shared → Prop} (I : Inv X pins σ H s) (hg : Gl X x) (hm : X.mg x = some u) (h : Q u s)
    (hd : (x == ("__debug__" : Str)) = false := by decide) : wpAny (model X.prog X.w) X.A (eval (.Name x pos) X.env) Q E s :=
  Calls.Name_function_global I.ok.kind hg (Calls.loadGlobal_global (by rw [I.ok.glob]; exact I.mod.glob.keeps I.bk) hm h) hd
theorem ld_blt {E : Value → Shared → Prop} {pins : List (Addr × Obj)} {s : Shared} {σ : St} {H : Hp} {x : Str} {u : Value} {pos : Pos} {Q : Value → Shared → Prop} (I : Inv X pins σ H s) (hg : Gl X x) (hm : X.mg x = none) (hv : bootBuiltins x = some u) (h : Q u s)
    (hn : x ≠ "__name__" := by decide) (hd : (x == ("__debug__" : Str)) = false := by decide) : wpAny (model X.prog X.w) X.A (eval (.Name x pos) X.env) Q E s := by
  obtain ⟨mb, h1, h2⟩ := I.mod.blt
  exact Calls.Name_function_global I.ok.kind hg (Calls.loadGlobal_builtin (by rw [I.ok.glob]; exact I.mod.glob.keeps I.bk) hm (by rw [I.ok.blt]; exact h1.keeps I.bk) ((h2 x hn).trans hv) h) hd
theorem pe_glob {x : Str} {v : V} {u : Value} {pos : Pos} (hg : Gl X x) (hm : X.mg x = some u) (r : RelV v u) (hd : (x == ("__debug__" : Str)) = false := by decide) : PE X (.Name x pos) (tC v) :=
  fun _ _ _ H _ I h => ld_glob I hg hm ⟨v, H, I, r, h⟩ hd
theorem pe_bltn {x : Str} {v : V} {u : Value} {pos : Pos} (hg : Gl X x) (hm : X.mg x = none) (hv : bootBuiltins x = some u) (r : RelV v u) (hn : x ≠ "__name__" := by decide) (hd : (x == ("__debug__" : Str)) = false := by decide) : PE X (.Name x pos) (tC v) :=
  fun _ _ _ H _ I h => ld_blt I hg hm hv ⟨v, H, I, r, h⟩ hn hd

variable {a b : Expr} {ta tb : TE} {pos : Pos}
def tB (t : TE) : TT := fun σ H Q => t σ H fun x H1 => ∃ c, x = .bl c ∧ Q c H1
theorem pt_val {e : Expr} {t : TE} (h : PE X e t) (he : ∀ whole, isTrue e X.env whole = (do let v ← whole; standAt e.pos; holding [v] (truthy v)) := by intro _; rfl) : PT X e (tB t) := by
  intro pins s σ H Q I hw
  refine isTrue_plain (thn (h pins s σ H _ I hw) fun v s1 ⟨x, H1, I1, r1, q1⟩ => ?_) (he _)
  obtain ⟨d, rfl, q⟩ := q1
  cases r1
  exact wpAny_truthy_bool ⟨H1, I1, q⟩

variable {tA tB' : TT} {rest : List Expr}
def tOr (t u : TT) : TT := fun σ H Q => t σ H fun c H1 => if c = true then Q true H1 else u σ H1 Q
def tNot (t : TT) : TT := fun σ H Q => t σ H fun c H1 => Q (!c) H1
theorem pw_or1 (ha : PT X a tA) : PW X (.BoolOp .Or [a] pos) tA := by
  intro wh pins s σ H Q I h
  refine isTrue_or (thn (ha pins s σ H Q I h) fun c s1 e => ?_)
  cases c with
  | false => exact isTrue_or_nil e
  | true => exact e
theorem pw_or (ha : PT X a tA) (hb : PW X (.BoolOp .Or (b :: rest) pos) tB') : PW X (.BoolOp .Or (a :: b :: rest) pos) (tOr tA tB') := by
  intro wh pins s σ H Q I h
  refine isTrue_or (thn (ha pins s σ H _ I h) fun c s1 ⟨H1, I1, q1⟩ => ?_)
  cases c with
  | true => exact ⟨H1, I1, q1⟩
  | false => exact hb wh pins s1 σ H1 Q I1 q1
theorem pt_not (ha : PT X a tA) : PT X (.UnaryOp .Not a pos) (tNot tA) := by
  intro pins s σ H Q I h
  exact isTrue_not (ha pins s σ H (fun c H1 => Q (!c) H1) I h)
def tAndV (ta tb : TE) : TE := fun σ H Q => ta σ H fun x H1 => ∃ c, x = .bl c ∧ if c = true then tb σ H1 Q else Q (.bl false) H1
def tNotV (ta : TE) : TE := fun σ H Q => ta σ H fun x H1 => ∃ c, x = .bl c ∧ Q (.bl (!c)) H1
theorem pe_one {op} {t : TE} (h : PE X a t) : PE X (.BoolOp op [a] pos) t := fun pins s σ H Q I hw => BoolOp_one (h pins s σ H Q I hw)
theorem pe_and (ha : PE X a ta) (hb : PE X (.BoolOp .And (b :: rest) pos) tb) : PE X (.BoolOp .And (a :: b :: rest) pos) (tAndV ta tb) := by
  intro pins s σ H Q I h
  refine BoolOp_and (thn (ha pins s σ H _ I h) fun v s1 ⟨x, H1, I1, r1, q1⟩ => ?_)
  obtain ⟨c, rfl, q1⟩ := q1
  cases r1
  refine wpAny_truthy_bool ?_
  cases c with
  | true => exact hb pins s1 σ H1 Q I1 q1
  | false => exact ⟨.bl false, H1, I1, rfl, q1⟩
theorem pe_not (ha : PE X a ta) : PE X (.UnaryOp .Not a pos) (tNotV ta) := by
  intro pins s σ H Q I h
  refine UnaryOp_ (thn (ha pins s σ H _ I h) fun v s1 ⟨x, H1, I1, r1, q1⟩ => ?_)
  obtain ⟨c, rfl, q1⟩ := q1
  cases r1
  exact not_of (wpAny_truthy_bool ⟨.bl (!c), H1, I1, rfl, q1⟩)
def tIf (t : TT) (ta tb : TE) : TE := fun σ H Q => t σ H fun c H1 => if c = true then ta σ H1 Q else tb σ H1 Q
theorem pe_ifExp {c : Expr} (hc : PT X c tA) (ha : PE X a ta) (hb : PE X b tb) : PE X (.IfExp c a b pos) (tIf tA ta tb) := by
  intro pins s σ H Q I h
  refine wpAny_IfExp (thn (hc pins s σ H _ I h) fun d s1 ⟨H1, I1, q1⟩ => ?_)
  cases d with
  | true => exact ha pins s1 σ H1 Q I1 q1
  | false => exact hb pins s1 σ H1 Q I1 q1
end
end L2

namespace L2
open PySem PySem.Spec PyProof.Rows

def SqL (K : PySem.W.Frag) (H : Hp) (a : Addr) (xs : List V) : Prop :=
  Rd H a (.lst xs) ∨
    ∃ (o : Obj) (its : Array Value) (n : Nat), K.lookup a = some o ∧ o.cls = .type "list" ∧ o.dict = none ∧ o.data = .seq its n ∧ its.size ≤ sizeLine ∧ Vals xs its.toList
def SqT (K : PySem.W.Frag) (H : Hp) (a : Addr) (xs : List V) : Prop :=
  Rd H a (.tup xs) ∨
    ∃ (o : Obj) (its : Array Value) (n : Nat), K.lookup a = some o ∧ o.cls = .type "tuple" ∧ o.data = .seq its n ∧ its.size ≤ sizeLine ∧ Vals xs its.toList
def absV : Value → Option V
  | .none => some .non
  | .bool b => some (.bl b)
  | .int i _ => some (.int i)
  | .str x _ => some (.str x)
  | .bytes b _ => some (.byt b)
  | .float b _ => some (.flt b)
  | .ref a => some (.ref a)
  | .type n => some (.ty n)
  | _ => none
theorem RelV.abs {x : V} {u : Value} (r : RelV x u) : absV u = some x := by
  cases x with
  | non => cases r; rfl
  | bl _ => cases r; rfl
  | int _ => obtain ⟨t, rfl⟩ := r; rfl
  | str _ => obtain ⟨t, rfl⟩ := r; rfl
  | byt _ => obtain ⟨t, rfl⟩ := r; rfl
  | flt _ => obtain ⟨t, rfl⟩ := r; rfl
  | ref _ => cases r; rfl
  | ty _ => cases r; rfl
theorem RelV.inj {x y : V} {u : Value} (r : RelV x u) (q : RelV y u) : x = y := Option.some.inj (r.abs.symm.trans q.abs)
theorem Vals.inj : ∀ {xs ys : List V} {us : List Value}, Vals xs us → Vals ys us → xs = ys
  | _, _, _, .nil, .nil => rfl
  | _, _, _, .cons r t, .cons r' t' => by rw [r.inj r', Vals.inj t t']
section
variable {X : Cx} {pins : List (Addr × Obj)} {σ : St} {H : Hp} {s : Shared} {a : Addr} {xs ys : List V}
theorem SqL.of {K : PySem.W.Frag} (h : H a = some (.lst xs)) : SqL K H a xs := .inl (.inl h)
theorem SqT.of {K : PySem.W.Frag} (h : H a = some (.tup xs)) : SqT K H a xs := .inl (.inl h)
theorem Inv.list (I : Inv X pins σ H s) (h : SqL X.K H a xs) : ∃ its : List Value, Vals xs its ∧ PlainL s.heap a its.toArray ∧ xs.length ≤ sizeLine := by
  rcases h with h | ⟨o, its, n, hk, hc, hd, hs, hz, r⟩
  · obtain ⟨z, its, n, r, e⟩ := h.ok I.hok
    exact ⟨its, r, ⟨_, n, e, rfl, rfl, rfl⟩, z⟩
  · refine ⟨its.toList, r, ⟨o, n, I.kIn a o hk, hc, hd, by simpa using hs⟩, ?_⟩
    have e := r.length
    simp only [Array.length_toList] at e
    omega
theorem Inv.tuple (I : Inv X pins σ H s) (h : SqT X.K H a xs) : ∃ its : List Value, Vals xs its ∧ IsTup s.heap a its.toArray ∧ xs.length ≤ sizeLine := by
  rcases h with h | ⟨o, its, n, hk, hc, hs, hz, r⟩
  · obtain ⟨z, its, r, p⟩ := h.ok I.hok
    exact ⟨its, r, p, z⟩
  · refine ⟨its.toList, r, ⟨o, I.kIn a o hk, hc, n, by simpa using hs⟩, ?_⟩
    have e := r.length
    simp only [Array.length_toList] at e
    omega
theorem Inv.list_inj (I : Inv X pins σ H s) (h : SqL X.K H a xs) (h' : SqL X.K H a ys) : xs = ys := by
  obtain ⟨its, r, ⟨o, n, e, _, _, d⟩, _⟩ := I.list h
  obtain ⟨its', r', ⟨o', n', e', _, _, d'⟩, _⟩ := I.list h'
  rw [e] at e'; cases e'
  rw [d] at d'
  injection d' with d1 _
  have : its = its' := by simpa using congrArg Array.toList d1
  subst this
  exact r.inj r'
end

abbrev Cx.wish (X : Cx) (E : Value → Shared → Prop) : Cx := { X with xe := E }
abbrev Cx.nox (X : Cx) : Cx := X.wish fun _ _ => False
theorem Cx.Ok.wish {X : Cx} (ok : X.Ok) (E : Value → Shared → Prop) : (X.wish E).Ok :=
  ⟨ok.mod, ok.kind, ok.glob, ok.blt, ok.above, ok.inj, ok.has, ok.cab, ok.hd, ok.frames, ok.stk, ok.exf, ok.bs, ok.bsz, ok.noex, ok.exfs, ok.funs, ok.frf⟩
theorem Cx.Ok.unwish {X : Cx} {E : Value → Shared → Prop} (ok : (X.wish E).Ok) : X.Ok :=
  ⟨ok.mod, ok.kind, ok.glob, ok.blt, ok.above, ok.inj, ok.has, ok.cab, ok.hd, ok.frames, ok.stk, ok.exf, ok.bs, ok.bsz, ok.noex, ok.exfs, ok.funs, ok.frf⟩
section
variable {X : Cx} {pins : List (Addr × Obj)} {σ : St} {H : Hp} {s : Shared} {E : Value → Shared → Prop}
theorem Inv.wish (I : Inv X pins σ H s) (E : Value → Shared → Prop) : Inv (X.wish E) pins σ H s := ⟨I.ok.wish E, I.os, I.bare, I.base, I.loc, I.cell, I.free, I.freeC, I.pin, I.hok, I.len⟩
theorem Inv.unwish (I : Inv (X.wish E) pins σ H s) : Inv X pins σ H s := ⟨I.ok.unwish, I.os, I.bare, I.base, I.loc, I.cell, I.free, I.freeC, I.pin, I.hok, I.len⟩
theorem SP.unwish {D : Ends} {f : Flow} {s' : Shared} (h : SP (X.wish E) pins D f s') : SP X pins D f s' := by
  cases f with
  | next => obtain ⟨σ', H', I, q⟩ := h; exact ⟨σ', H', I.unwish, q⟩
  | brk => obtain ⟨σ', H', I, q⟩ := h; exact ⟨σ', H', I.unwish, q⟩
  | cont => obtain ⟨σ', H', I, q⟩ := h; exact ⟨σ', H', I.unwish, q⟩
  | ret u => obtain ⟨v, σ', H', I, r, q⟩ := h; exact ⟨v, σ', H', I.unwish, r, q⟩
theorem PSs.nox {st : List Stmt} {t : TS} (h : PSs X.nox st t) : PSs X st t := fun pins s σ H D I hw =>
  wpAny_mono (h pins s σ H D (I.wish _) hw) (fun _ _ q => q.unwish) fun _ _ z => False.elim z
end

section
variable {X : Cx} {st : Stmt} {rest : List Stmt} {t u : TS} {e : Expr} {te : TE} {pos : Pos}
def tNext : TS := fun D σ H => D.nx σ H
def tSeq (t u : TS) : TS := fun D σ H => t { D with nx := u D } σ H
theorem pss_nil : PSs X [] tNext := fun _ _ σ H _ I h => wpAny_execs_nil ⟨σ, H, I, h⟩
theorem pss_cons (h1 : PS X st t) (h2 : PSs X rest u) : PSs X (st :: rest) (tSeq t u) := by
  intro pins s σ H D I h
  refine wpAny_execs_cons (thn (h1 pins s σ H { D with nx := u D } I h) fun f s1 q => ?_)
  cases f with
  | next =>
    obtain ⟨σ', H', I', q⟩ := q
    exact h2 pins s1 σ' H' D I' q
  | ret v => exact q
  | brk => exact q
  | cont => exact q
theorem pss_one (h1 : PS X st t) : PSs X [st] t := by
  intro pins s σ H D I h
  refine wpAny_execs_cons (thn (h1 pins s σ H D I h) fun f s1 q => ?_)
  cases f with
  | next => exact wpAny_execs_nil q
  | ret v => exact q
  | brk => exact q
  | cont => exact q
theorem Inv.quiet {pins : List (Addr × Obj)} {σ : St} {H : Hp} {s : Shared} (I : Inv X pins σ H s) : interactive X.env = false := by simp [interactive, I.ok.kind]
def tDrop (te : TE) : TS := fun D σ H => te σ H fun _ H1 => D.nx σ H1
theorem ps_expr (he : PE X e te) (hs : swapsWith e none pos.line X.env = pure false := by rfl) : PS X (.Expr e pos) (tDrop te) := by
  intro pins s σ H D I h
  exact wpAny_Expr_any (thn (he pins s σ H _ I h) fun v s1 ⟨x, H1, I1, r1, q1⟩ => ⟨σ, H1, I1, q1⟩) I.quiet hs
def tRet (te : TE) : TS := fun D σ H => te σ H D.rt
theorem ps_ret (he : PE X e te) : PS X (.Return (some e) pos) (tRet te) := by
  intro pins s σ H D I h
  exact wpAny_Return_some (thn (he pins s σ H _ I h) fun v s1 ⟨x, H1, I1, r1, q1⟩ => ⟨x, σ, H1, I1, r1, q1⟩)
def tIfS (c : TT) (t u : TS) : TS := fun D σ H => c σ H fun b H1 => if b = true then t D σ H1 else u D σ H1
theorem ps_if {c : Expr} {a b : List Stmt} {tc : TT} (hc : PT X c tc) (ha : PSs X a t) (hb : PSs X b u) : PS X (.If c a b pos) (tIfS tc t u) := by
  intro pins s σ H D I h
  refine wpAny_If (thn (hc pins s σ H _ I h) fun d s1 ⟨H1, I1, q1⟩ => ?_)
  cases d with
  | true => exact ha pins s1 σ H1 D I1 q1
  | false => exact hb pins s1 σ H1 D I1 q1
def tNever : TS := fun _ _ _ => False
theorem ps_never : PS X st tNever := fun _ _ _ _ _ _ h => h.elim
end

abbrev TG := V → St → Hp → (St → Hp → Prop) → Prop
abbrev TGs := List V → St → Hp → (St → Hp → Prop) → Prop
def PG (X : Cx) (target : Expr) (t : TG) : Prop :=
  ∀ (pins : List (Addr × Obj)) (s : Shared) (σ : St) (H : Hp) (v : V) (u : Value) (Q : St → Hp → Prop), Inv X pins σ H s → RelV v u → t v σ H Q →
    wpAny (model X.prog X.w) X.A (assign target X.env u) (fun _ s' => ∃ σ' H', Inv X pins σ' H' s' ∧ Q σ' H') X.xe s
def PGs (X : Cx) (ts : List Expr) (t : TGs) : Prop :=
  ∀ (pins : List (Addr × Obj)) (s : Shared) (σ : St) (H : Hp) (vs : List V) (us : List Value) (Q : St → Hp → Prop), Inv X pins σ H s → Vals vs us → t vs σ H Q →
    wpAny (model X.prog X.w) X.A (assignInOrder ((assignEach ts X.env).map (·.2)) us) (fun _ s' => ∃ σ' H', Inv X pins σ' H' s' ∧ Q σ' H') X.xe s
section
variable {X : Cx} {pos : Pos}
def gName (i : Nat) : TG := fun v σ H Q => Q (σ.set i (some v)) H
theorem pg_name {i : Nat} {x : Str} (hN : X.N.Nodup) (hi : X.N[i]? = some x) (hx : Loc X.env.scope x) (hf : X.fn x = true ∨ X.env.scope.names.lookup x = some .local := by first | exact .inl rfl | exact .inr rfl | assumption) : PG X (.Name x pos) (gName i) := by
  intro pins s σ H v u Q I r h
  exact wpAny_assign_Name (store_ok I hN hi hx r (fun s' I' => ⟨_, H, I', h⟩) hf)
def gNil : TGs := fun vs σ H Q => vs = [] ∧ Q σ H
def gCons (t : TG) (u : TGs) : TGs := fun vs σ H Q => ∃ v r, vs = v :: r ∧ t v σ H fun σ' H' => u r σ' H' Q
theorem pgs_nil : PGs X [] gNil := by
  intro pins s σ H vs us Q I r h
  obtain ⟨e, h⟩ := h
  subst e
  cases r
  exact assignInOrder_nil ⟨σ, H, I, h⟩
theorem pgs_cons {e : Expr} {es : List Expr} {t : TG} {u : TGs} (h1 : PG X e t) (h2 : PGs X es u)
    (hs : (assignEach (e :: es) X.env).map (·.2) = assign e X.env :: (assignEach es X.env).map (·.2) := by rfl) : PGs X (e :: es) (gCons t u) := by
  intro pins s σ H vs us Q I r h
  obtain ⟨v, vr, e1, h⟩ := h
  subst e1
  cases r with
  | cons r rr =>
    rw [hs]
    refine assignInOrder_cons (thn (h1 pins s σ H _ _ _ I r h) fun _ s1 ⟨σ1, H1, I1, q1⟩ => ?_)
    exact h2 pins s1 σ1 H1 _ _ Q I1 rr q1
def gTup (K : PySem.W.Frag) (n : Nat) (t : TGs) : TG := fun v σ H Q => ∃ a xs, v = .ref a ∧ SqT K H a xs ∧ xs.length = n ∧ t xs σ H Q
theorem pg_tup {es : List Expr} {k : Nat} {t : TGs} {n : Nat} (hc : X.calm = true) (h : PGs X es t)
    (hn : (assignEach es X.env).length = n := by rfl) (hst : (assignEach es X.env).findIdx? (·.1) = none := by rfl) : PG X (.Tuple es k pos) (gTup X.K n t) := by
  intro pins s σ H v u Q I r hw
  obtain ⟨a, xs, e1, hq, hl, hw⟩ := hw
  subst e1
  cases r
  obtain ⟨its, rv, ht, hz⟩ := I.tuple hq
  refine assign_Tuple_tuple (I.ok.hd hc) ht (by simp [hn, ← hl, rv.length]) hst fun h' hx => ?_
  have I1 : Inv X pins σ H { s with heap := h' } := I.kept (t' := s.toks) fun b o e => hx b o (Nat.ne_of_lt (Heap.lt_size e)) e
  exact h pins _ σ H xs _ Q I1 (by simpa using rv) hw
def tAsg (te : TE) (g : TG) : TS := fun D σ H => te σ H fun x H1 => g x σ H1 D.nx
theorem ps_set {i : Nat} {x : Str} {e : Expr} {te : TE} {pos' : Pos} (hN : X.N.Nodup) (hi : X.N[i]? = some x) (hx : Loc X.env.scope x) (he : PE X e te) (hs : swapsWith e (some (.Name x pos')) pos.line X.env = pure false := by rfl) (hf : X.fn x = true ∨ X.env.scope.names.lookup x = some .local := by first | exact .inl rfl | exact .inr rfl | assumption) :
    PS X (.Assign [.Name x pos'] e pos) (tAsg te (gName i)) := by
  intro pins s σ H D I h
  refine wpAny_Assign_Name (thn (he pins s σ H _ I h) fun v s1 ⟨y, H1, I1, r1, q1⟩ => ?_) hs
  exact store_ok I1 hN hi hx r1 (fun s2 I2 => ⟨_, H1, I2, q1⟩) hf
end

section
variable {X : Cx} {pos : Pos}
def tWhile (c : TT) (tb : TS) : TS := fun D σ H => ∃ W : Nat → St → Hp → Prop, (∃ m, W m σ H) ∧ ∀ m σ H, W m σ H →
  c σ H fun b H1 => if b = true then ∃ N : St → Hp → Prop, (∀ σ' H', N σ' H' → ∃ m', m' < m ∧ W m' σ' H') ∧ tb { D with nx := N, ct := N, bk := D.nx } σ H1 else D.nx σ H1
theorem ps_while {c : Expr} {body : List Stmt} {tc : TT} {tb : TS} (hp : PassesOwn (model X.prog X.w) X.A X.env X.xe) (hc : PT X c tc) (hb : PSs X body tb) : PS X (.While c body [] pos) (tWhile tc tb) := by
  intro pins s σ H D I h
  obtain ⟨W, ⟨m0, w0⟩, turn⟩ := h
  refine wpAny_While (codeAny_whileLoop (fun n s' => ∃ σ' H', Inv X pins σ' H' s' ∧ W n σ' H') ?_ m0 ⟨σ, H, I, w0⟩)
  rintro n s1 ⟨σ1, H1, I1, w1⟩
  refine wpAny_passesOwn hp (thn (hc pins s1 σ1 H1 _ I1 (turn n σ1 H1 w1)) fun b s2 ⟨H2, I2, q2⟩ => ?_)
  cases b with
  | true =>
    obtain ⟨N, hN, q2⟩ := q2
    rw [if_pos rfl]
    refine wpAny_passesOwn hp (thn (hb pins s2 σ1 H2 _ I2 q2) fun f s3 q3 => ?_)
    cases f with
    | next =>
      obtain ⟨σ3, H3, I3, n3⟩ := q3
      obtain ⟨m', hm, w3⟩ := hN σ3 H3 n3
      exact ⟨m', hm, σ3, H3, I3, w3⟩
    | cont =>
      obtain ⟨σ3, H3, I3, n3⟩ := q3
      obtain ⟨m', hm, w3⟩ := hN σ3 H3 n3
      exact ⟨m', hm, σ3, H3, I3, w3⟩
    | brk => exact q3
    | ret v => exact q3
  | false =>
    rw [if_neg Bool.false_ne_true]
    exact wpAny_execs_nil ⟨σ1, H2, I2, q2⟩
end

structure It where
  go : Nat → Hp → Prop
  yld : Nat → Hp → V → Hp → Prop
  stop : Nat → Hp → Prop
def FpOk (X : Cx) (pins : List (Addr × Obj)) (H : Hp) (b : Addr) : Prop :=
  H b = none ∧ b ≠ X.env.locals ∧ b ∉ X.fs ∧ (b ∈ X.ex ∨ X.s₀.heap.objs.size ≤ b) ∧ (∀ x c, X.env.cells.lookup x = some c → c ≠ b) ∧ ∀ p ∈ X.pn ++ pins, p.1 ≠ b
theorem Inv.fpOk {X : Cx} {pins : List (Addr × Obj)} {σ : St} {H H' : Hp} {s : Shared} {b : Addr} (I : Inv X pins σ H s) (hb : s.heap.objs.size ≤ b) (hn : H' b = none) : FpOk X pins H' b := by
  refine ⟨hn, Nat.ne_of_gt (Nat.lt_of_lt_of_le I.lt hb), I.nofs hb, .inr (Nat.le_trans I.sz hb), fun x c e z => ?_, fun p hp z => ?_⟩
  · obtain ⟨v, q⟩ := I.cell x c e
    exact absurd (Nat.lt_of_lt_of_le q.lt (by rw [z]; exact hb)) (Nat.lt_irrefl _)
  · exact absurd (Nat.lt_of_lt_of_le (Heap.lt_size (I.pin p hp).1) (by rw [z]; exact hb)) (Nat.lt_irrefl _)
structure Turn (P : Program) (w : World) (K : PySem.W.Frag) (tg : Expr) (J : It) (fp : List Addr) (it : Addr) (tn : Nat → Heap → Prop) : Prop where
  mem : it ∈ fp
  obj : ∀ i h, tn i h → ∀ b ∈ fp, ∃ o, h.get? b = some o ∧ ∀ v, o.data ≠ .cell v
  keep : ∀ i h h', tn i h → (∀ b ∈ fp, ∀ o, h.get? b = some o → h'.get? b = some o) → tn i h'
  item : ∀ (X : Cx), X.prog = P → X.w = w → X.K = K → X.calm = true → ∀ (i : Nat) (pins : List (Addr × Obj)) (s : Shared) (σ : St) (H : Hp) (E : Value → Shared → Prop), Inv X pins σ H s → (∀ b ∈ fp, FpOk X pins H b) → tn i s.heap → J.go i H →
    wpAny (model P w) X.A (pyNext (.ref it)) (fun r s1 => ∃ u, r = some u ∧
      wpAny (model P w) X.A (letOwnedTupleGo tg (.ref it) u) (fun _ s2 => ∃ x H', Inv X pins σ H' s2 ∧ RelV x u ∧ J.yld i H x H' ∧ tn (i + 1) s2.heap ∧ ∀ b ∈ fp, H' b = none) E s1) E s
  done : ∀ (X : Cx), X.prog = P → X.w = w → X.K = K → X.calm = true → ∀ (i : Nat) (pins : List (Addr × Obj)) (s : Shared) (σ : St) (H : Hp) (E : Value → Shared → Prop), Inv X pins σ H s → (∀ b ∈ fp, FpOk X pins H b) → tn i s.heap → J.stop i H →
    wpAny (model P w) X.A (pyNext (.ref it)) (fun r s1 => r = none ∧ Inv X pins σ H s1) E s
  self : ∀ (A : Around) (i : Nat) (s : Shared) (Q : Value → Shared → Prop) (E : Value → Shared → Prop), tn i s.heap → Q (.ref it) s → wpAny (model P w) A (pyIter (.ref it)) Q E s
abbrev TI := St → Hp → (It → Hp → Prop) → Prop
def PIE (X : Cx) (pins : List (Addr × Obj)) (σ : St) (tg : Expr) (R : It → Hp → Prop) (itv : Value) (s2 : Shared) : Prop :=
  ∃ (it : Addr) (fp : List Addr) (tn : Nat → Heap → Prop) (J : It) (H' : Hp), itv = .ref it ∧ Inv X pins σ H' s2 ∧ Turn X.prog X.w X.K tg J fp it tn ∧ tn 0 s2.heap ∧ (∀ b ∈ fp, FpOk X pins H' b) ∧ R J H'
def PI (X : Cx) (tg iter : Expr) (wi : TI) : Prop :=
  ∀ (pins : List (Addr × Obj)) (s : Shared) (σ : St) (H : Hp) (R : It → Hp → Prop), Inv X pins σ H s → wi σ H R →
    wpAny (model X.prog X.w) X.A (eval iter X.env) (fun v s1 => wpAny (model X.prog X.w) X.A (pyIter v) (PIE X pins σ tg R) X.xe s1) X.xe s

theorem go_of {M : Model} {A : Around} {E : Value → Shared → Prop} {s : Shared} {tg : Expr} {it : Addr} {u : Value} {o : Obj} {n : String} {vs : Array Value} {Q : Unit → Shared → Prop} (ho : s.heap.get? it = some o) (hc : o.cls = .type n) (hd : o.data = .fields vs)
    (hn : ["enumerate", "zip", "dict_itemiterator", "dict_reverseitemiterator", "odict_iterator", "itertools.zip_longest", "itertools.pairwise"].contains n = false) (hQ : Q () s) : wpAny M A (letOwnedTupleGo tg (.ref it) u) Q E s := by
  unfold letOwnedTupleGo
  cases tg <;> first
    | exact wpAny_pure hQ
    | (cases u <;> first
        | exact wpAny_pure hQ
        | (refine wpAny_bind (wpAny_load ho ?_)
           rw [hc, hd]
           show wpAny M A (if (["enumerate", "zip", "dict_itemiterator", "dict_reverseitemiterator", "odict_iterator", "itertools.zip_longest", "itertools.pairwise"].contains n && vs[0]? == some (rawInt _)) = true then _ else _) Q E s
           rw [if_neg (by intro h; rw [hn, Bool.false_and] at h; cases h)]
           exact wpAny_pure hQ))

def Itl (K : PySem.W.Frag) (a : Addr) : It :=
  ⟨fun i H => ∃ xs x, SqL K H a xs ∧ xs[i]? = some x, fun i H x H' => H' = H ∧ ∀ xs, SqL K H a xs → xs[i]? = some x, fun i H => ∃ xs, SqL K H a xs ∧ xs.length ≤ i⟩
def Itr (lo : Int) (n : Nat) : It := ⟨fun i _ => i < n, fun i H x H' => H' = H ∧ x = .int (lo + i), fun i _ => n ≤ i⟩
theorem turn_list {P : Program} {w : World} {K : PySem.W.Frag} {tg : Expr} (a it : Addr) : Turn P w K tg (Itl K a) [it] it (fun i h => h.IsListIter it a i) where
  mem := by simp
  obj := fun i h st b hb => by
    have e : b = it := by simpa using hb
    subst e
    obtain ⟨o, e, c, d⟩ := st
    exact ⟨o, e, fun v z => by rw [d] at z; cases z⟩
  keep := fun i h h' st k => st.at fun o e => k it (by simp) o e
  item := by
    intro X hP hw hK hc i pins s σ H E I hf st hg
    subst hP hw hK
    obtain ⟨xs, x, hq, hx⟩ := hg
    obtain ⟨its, rv, p, hz⟩ := I.list hq
    obtain ⟨u, hu, ru⟩ := rv.get hx
    obtain ⟨f0, f1, f2, f3, f4, f5⟩ := hf it (by simp)
    refine wpAny_pyNext_list_item st p.isList (x := u) (by simpa using hu) fun h' st' sb => ?_
    have I1 : Inv X pins σ H { s with heap := h' } := I.turned (t' := s.toks) (fun b o hb e => (sb.2 b hb).trans e) f0 f1 f3 f4 f5
    obtain ⟨o, e, c, d⟩ := id st'
    exact ⟨u, rfl, go_of (s := { s with heap := h' }) e c d (by decide) ⟨x, H, I1, ru, ⟨rfl, fun ys hy => by rw [I.list_inj hy hq]; exact hx⟩, st', fun b hb => (hf b hb).1⟩⟩
  done := by
    intro X hP hw hK hc i pins s σ H E I hf st hg
    subst hP hw hK
    obtain ⟨xs, hq, hx⟩ := hg
    obtain ⟨its, rv, p, hz⟩ := I.list hq
    obtain ⟨f0, f1, f2, f3, f4, f5⟩ := hf it (by simp)
    have hl := rv.length
    exact wpAny_pyNext_list_end (I.ok.hd hc) st p.isList (by simp; omega) fun h' eb => ⟨rfl, I.turned (t' := s.toks) (fun b o hb e => eb b o hb e) f0 f1 f3 f4 f5⟩
  self := fun _ _ _ _ _ st h => wpAny_pyIter_listiter st h
theorem turn_range {P : Program} {w : World} {K : PySem.W.Frag} {tg : Expr} (it : Addr) (lo : Int) (n : Nat) : Turn P w K tg (Itr lo n) [it] it (fun i h => IsRangeIter h it (lo + (i : Nat) * 1) ((n : Int) - (i : Nat)) 1) where
  mem := by simp
  obj := fun i h st b hb => by
    have e : b = it := by simpa using hb
    subst e
    exact ⟨_, st, fun v z => by
      have z' : Data.fields _ = Data.cell v := z
      cases z'⟩
  keep := fun i h h' st k => k it (by simp) _ st
  item := by
    intro X hP hw hK hc i pins s σ H E I hf st hg
    subst hP hw hK
    obtain ⟨f0, f1, f2, f3, f4, f5⟩ := hf it (by simp)
    have W := Walks.range (prog := X.prog) (w := X.w) (I.ok.hd hc) it lo 1 n
    refine W.item i s _ _ hg st fun v h' tk hv st' kk => ?_
    obtain ⟨t, rfl⟩ := hv
    have I1 : Inv X pins σ H { s with heap := h', toks := tk } := I.turned (fun b o hb e => kk b o (by simpa using hb) e) f0 f1 f3 f4 f5
    refine ⟨_, rfl, go_of (s := { s with heap := h', toks := tk }) (n := "range_iterator") st' rfl rfl (by decide) ⟨.int (lo + i), H, I1, ⟨t, ?_⟩, ⟨rfl, rfl⟩, st', fun b hb => (hf b hb).1⟩⟩
    rw [Int.mul_one]
  done := by
    intro X hP hw hK hc i pins s σ H E I hf st hg
    subst hP hw hK
    obtain ⟨f0, f1, f2, f3, f4, f5⟩ := hf it (by simp)
    exact wpAny_pyNext_range_end (I.ok.hd hc) st (by have : n ≤ i := hg; omega) fun h' eb => ⟨rfl, I.turned (t' := s.toks) (fun b o hb e => eb b o hb e) f0 f1 f3 f4 f5⟩
  self := fun _ _ _ _ _ st h => wpAny_pyIter_rangeiter st h
end L2

namespace L2
open PySem PySem.Spec PyProof.Rows
section
variable {X : Cx} {tg : Expr}
def iList (K : PySem.W.Frag) (tl : TE) : TI := fun σ H R => tl σ H fun x H1 => ∃ a, x = .ref a ∧ (∃ xs, SqL K H1 a xs) ∧ R (Itl K a) H1
theorem pi_list {l : Expr} {tl : TE} (hl : PE X l tl) : PI X tg l (iList X.K tl) := by
  intro pins s σ H R I h
  refine thn (hl pins s σ H _ I h) fun v s1 ⟨x, H1, I1, r1, q1⟩ => ?_
  obtain ⟨a, e, ⟨xs, hq⟩, q⟩ := q1
  subst e
  cases r1
  obtain ⟨its, rv, p, hz⟩ := I1.list hq
  refine wpAny_pyIter_list p.isList ?_
  refine ⟨s1.heap.objs.size, [s1.heap.objs.size], _, _, H1, rfl, I1.kept (t' := s1.toks) fun b o e => Heap.get?_push_of_some _ e, turn_list a _, ⟨_, Heap.get?_push_size _ rfl, rfl, rfl⟩, fun b hb => ?_, q⟩
  have e : b = s1.heap.objs.size := by simpa using hb
  subst e
  exact I1.fpOk (Nat.le_refl _) (I1.hok.fresh (Nat.le_refl _))
theorem range_it {pins : List (Addr × Obj)} {σ : St} {H : Hp} {s : Shared} {R : It → Hp → Prop} {E : Value → Shared → Prop} {lo hi : Int} {t u v : Tok} {tk : Nat} (I : Inv X pins σ H s) (h1 : -(2 ^ 62) ≤ lo) (h2 : lo < 2 ^ 62) (h3 : -(2 ^ 62) ≤ hi) (h4 : hi < 2 ^ 62)
    (q : R (Itr lo (hi - lo).toNat) H) : wpAny (model X.prog X.w) X.A (pyIter (.ref s.heap.objs.size)) (PIE X pins σ tg R) E { s with heap := s.heap.push { cls := .type "range", data := .fields #[.int lo t, .int hi u, .int 1 v] }, toks := tk } := by
  refine wpAny_pyIter_range (IsRange.new ..) (small_one h1 h2 h3 h4) ?_
  have I1 : Inv X pins σ H { s with heap := s.heap.push { cls := .type "range", data := .fields #[.int lo t, .int hi u, .int 1 v] }, toks := tk } := I.kept fun b o e => Heap.get?_push_of_some _ e
  refine ⟨(s.heap.push { cls := .type "range", data := .fields #[.int lo t, .int hi u, .int 1 v] }).objs.size, [(s.heap.push { cls := .type "range", data := .fields #[.int lo t, .int hi u, .int 1 v] }).objs.size], _, _, H, rfl,
    I1.kept (t' := tk) fun b o e => Heap.get?_push_of_some _ e, turn_range _ lo (hi - lo).toNat, ?_, fun b hb => ?_, q⟩
  · have e1 : lo + ((0 : Nat) : Int) * 1 = lo := by simp
    have e2 : (((hi - lo).toNat : Nat) : Int) - ((0 : Nat) : Int) = Builtin.Range.rangeSize lo hi 1 := by rw [rangeSize_one]; split <;> omega
    show IsRangeIter _ _ (lo + ((0 : Nat) : Int) * 1) ((((hi - lo).toNat : Nat) : Int) - ((0 : Nat) : Int)) 1
    rw [e1, e2]
    exact Heap.get?_push_size _ rfl
  · have e : b = (s.heap.push { cls := .type "range", data := .fields #[.int lo t, .int hi u, .int 1 v] }).objs.size := by simpa using hb
    subst e
    exact I1.fpOk (Nat.le_refl _) (I1.hok.fresh (Nat.le_refl _))
def iRng1 (ta : TA) : TI := fun σ H R => ta σ H fun vs H1 => ∃ j : Int, vs = [.int j] ∧ -(2 ^ 62) ≤ j ∧ j < 2 ^ 62 ∧ R (Itr 0 j.toNat) H1
def iRng2 (ta : TA) : TI := fun σ H R => ta σ H fun vs H1 => ∃ i j : Int, vs = [.int i, .int j] ∧ (-(2 ^ 62) ≤ i ∧ i < 2 ^ 62 ∧ -(2 ^ 62) ≤ j ∧ j < 2 ^ 62) ∧ R (Itr i (j - i).toNat) H1
theorem pi_range1 {a : Expr} {ta : TA} {p pos : Pos} (hg : Gl X "range") (hm : X.mg "range" = none) (ha : PA X [a] ta) (hs : starEach [a] X.env = [(false, eval a X.env)] := by rfl) : PI X tg (.Call (.Name "range" p) [a] [] pos) (iRng1 ta) := by
  intro pins s σ H R I h
  refine Call_ (ld_blt I hg hm boot_range (PyProof.Rows.callWith_type1 (thn (ha pos pins s σ H _ I h) fun us s1 ⟨vs, H1, I1, r1, q1⟩ => ?_) hs rfl))
  obtain ⟨j, e, q1, q2, q⟩ := q1
  subst e
  cases r1 with
  | cons r rr =>
    cases rr
    obtain ⟨t, rfl⟩ := r
    exact call_range_1 (range_it I1 (by omega) (by omega) q1 q2 (by simpa using q))
theorem pi_range2 {a b : Expr} {ta : TA} {p pos : Pos} (hg : Gl X "range") (hm : X.mg "range" = none) (ha : PA X [a, b] ta) (hs : starEach [a, b] X.env = [(false, eval a X.env), (false, eval b X.env)] := by rfl) (hs2 : starEach [b] X.env = [(false, eval b X.env)] := by rfl) :
    PI X tg (.Call (.Name "range" p) [a, b] [] pos) (iRng2 ta) := by
  intro pins s σ H R I h
  refine Call_ (ld_blt I hg hm boot_range (PyProof.Rows.callWith_type1 (thn (ha pos pins s σ H _ I h) fun us s1 ⟨vs, H1, I1, r1, q1⟩ => ?_) (by rw [hs, hs2]) (by rw [hs2]; rfl)))
  obtain ⟨i, j, e, ⟨q1, q2, q3, q4⟩, q⟩ := q1
  subst e
  cases r1 with
  | cons r rr =>
    cases rr with
    | cons r' rr =>
      cases rr
      obtain ⟨t, rfl⟩ := r
      obtain ⟨t', rfl⟩ := r'
      exact call_range_2 (range_it I1 q1 q2 q3 q4 q)

def tFor (wi : TI) (g : TG) (tb : TS) : TS := fun D σ H => wi σ H fun J H1 => ∃ W : Nat → Nat → St → Hp → Prop, (∃ m, W 0 m σ H1) ∧ ∀ i m σ H, W i m σ H →
  (J.stop i H ∧ D.nx σ H) ∨ (J.go i H ∧ ∃ N : St → Hp → Prop, (∀ σ' H', N σ' H' → ∃ m', m' < m ∧ W (i + 1) m' σ' H') ∧ ∀ x H', J.yld i H x H' → g x σ H' fun σ2 H2 => tb { D with nx := N, ct := N, bk := D.nx } σ2 H2)
def pinsAt (fp : List Addr) (h : Heap) : List (Addr × Obj) := fp.filterMap fun b => (h.get? b).map fun o => (b, o)
theorem mem_pinsAt {fp : List Addr} {h : Heap} {b : Addr} {o : Obj} (hb : b ∈ fp) (e : h.get? b = some o) : (b, o) ∈ pinsAt fp h := List.mem_filterMap.mpr ⟨b, hb, by rw [e]; rfl⟩
theorem of_pinsAt {fp : List Addr} {h : Heap} {p : Addr × Obj} (hp : p ∈ pinsAt fp h) : p.1 ∈ fp ∧ h.get? p.1 = some p.2 := by
  obtain ⟨b, hb, e⟩ := List.mem_filterMap.mp hp
  cases q : h.get? b with
  | none => rw [q] at e; cases e
  | some o =>
    rw [q] at e
    have e' : (b, o) = p := Option.some.inj e
    subst e'
    exact ⟨hb, q⟩
theorem Inv.pinned {pins : List (Addr × Obj)} {σ : St} {H : Hp} {s : Shared} {fp : List Addr} (I : Inv X pins σ H s) (hf : ∀ b ∈ fp, FpOk X pins H b) (ho : ∀ b ∈ fp, ∃ o, s.heap.get? b = some o ∧ ∀ v, o.data ≠ .cell v) : Inv X (pins ++ pinsAt fp s.heap) σ H s :=
  I.pins_of fun p hp => (List.mem_append.mp hp).elim (fun z => I.pin p (List.mem_append_right _ z)) fun z => by
    obtain ⟨hb, e⟩ := of_pinsAt z
    obtain ⟨f0, f1, f2, _⟩ := hf p.1 hb
    obtain ⟨o, e', d⟩ := ho p.1 hb
    rw [e] at e'; cases e'
    exact ⟨e, f0, f1, f2, d⟩
theorem Inv.unpinned {pins pl : List (Addr × Obj)} {σ : St} {H : Hp} {s : Shared} (I : Inv X (pins ++ pl) σ H s) : Inv X pins σ H s := I.pins_of fun p hp => I.pin p (List.mem_append_right _ (List.mem_append_left _ hp))
theorem ps_for {iter : Expr} {body : List Stmt} {wi : TI} {g : TG} {tb : TS} {pos : Pos} (hp : PassesOwn (model X.prog X.w) X.A X.env X.xe) (hc : X.calm = true) (hi : PI X tg iter wi) (hg : PG X tg g) (hb : PSs X body tb)
    (hs : ∀ x, foldedSetIterable iter X.env x = pure x := by intro _; rfl) : PS X (.For tg iter body [] pos) (tFor wi g tb) := by
  intro pins s σ H D I h
  refine wpAny_For (thn (hi pins s σ H _ I h) fun v s1 h1 => thn h1 fun itv s2 h2 => ?_) hs
  obtain ⟨it, fp, tn, J, H2, e, I2, T, st2, f2, W, ⟨m0, w0⟩, turn⟩ := h2
  subst e
  -- what stays true of the iterator's objects through the loop
  have stat : ∀ {H' : Hp}, (∀ b ∈ fp, H' b = none) → ∀ b ∈ fp, FpOk X pins H' b := fun hn b hb => ⟨hn b hb, (f2 b hb).2⟩
  refine codeAny_forLoop_any (fun n s' => ∃ i σ' H', Inv X pins σ' H' s' ∧ tn i s'.heap ∧ (∀ b ∈ fp, H' b = none) ∧ W i n σ' H') ?_ m0 ⟨0, σ, H2, I2, st2, fun b hb => (f2 b hb).1, w0⟩
  rintro n s3 ⟨i, σ3, H3, I3, st3, fr3, w3⟩
  rcases turn i n σ3 H3 w3 with ⟨stop, qn⟩ | ⟨go, N, hN, step⟩
  · refine wpAny_passesOwn hp (thn (T.done X rfl rfl rfl hc i pins s3 σ3 H3 X.xe I3 (stat fr3) st3 stop) fun r s4 ⟨hr, I4⟩ => ?_)
    subst hr
    exact wpAny_execs_nil ⟨σ3, H3, I4, qn⟩
  · refine wpAny_passesOwn hp (thn (T.item X rfl rfl rfl hc i pins s3 σ3 H3 X.xe I3 (stat fr3) st3 go) fun r s4 ⟨u, hr, h4⟩ => ?_)
    subst hr
    refine wpAny_passesOwn hp (thn h4 fun _ s5 ⟨x, H5, I5, r5, y5, st5, fr5⟩ => ?_)
    have I5' := I5.pinned (stat fr5) (T.obj _ _ st5)
    refine wpAny_passesOwn hp (thn (hg _ s5 σ3 H5 x u _ I5' r5 (step x H5 y5)) fun _ s6 ⟨σ6, H6, I6, q6⟩ => ?_)
    refine wpAny_passesOwn hp (thn (hb _ s6 σ6 H6 _ I6 q6) fun f s7 q7 => ?_)
    have again : ∀ {σ7 : St} {H7 : Hp}, Inv X (pins ++ pinsAt fp s5.heap) σ7 H7 s7 → N σ7 H7 → ∃ m, m < n ∧ ∃ i σ' H', Inv X pins σ' H' s7 ∧ tn i s7.heap ∧ (∀ b ∈ fp, H' b = none) ∧ W i m σ' H' := fun {σ7 H7} I7 n7 => by
      obtain ⟨m', hm, w7⟩ := hN σ7 H7 n7
      refine ⟨m', hm, i + 1, σ7, H7, I7.unpinned, T.keep _ _ _ st5 fun b hb o e => (I7.pin (b, o) (List.mem_append_right _ (List.mem_append_right _ (mem_pinsAt hb e)))).1, fun b hb => ?_, w7⟩
      obtain ⟨o, e, d⟩ := T.obj _ _ st5 b hb
      exact (I7.pin (b, o) (List.mem_append_right _ (List.mem_append_right _ (mem_pinsAt hb e)))).2.1
    cases f with
    | next => obtain ⟨σ7, H7, I7, n7⟩ := q7; exact again I7 n7
    | cont => obtain ⟨σ7, H7, I7, n7⟩ := q7; exact again I7 n7
    | brk => obtain ⟨σ7, H7, I7, q7⟩ := q7; exact ⟨σ7, H7, I7.unpinned, q7⟩
    | ret v => obtain ⟨x7, σ7, H7, I7, r7, q7⟩ := q7; exact ⟨x7, σ7, H7, I7.unpinned, r7, q7⟩
end

theorem for_list {K : PySem.W.Frag} {a : Addr} {xs : List V} {g : TG} {tb : TS} {D : Ends} {σ : St} {H : Hp} (Pv : Nat → St → Hp → Prop) (h0 : Pv 0 σ H) (hl : ∀ i σ H, i ≤ xs.length → Pv i σ H → SqL K H a xs)
    (hs : ∀ i x σ H, xs[i]? = some x → Pv i σ H → g x σ H fun σ2 H2 => tb { D with nx := Pv (i + 1), ct := Pv (i + 1), bk := D.nx } σ2 H2) (hd : ∀ σ H, Pv xs.length σ H → D.nx σ H) :
    ∃ W : Nat → Nat → St → Hp → Prop, (∃ m, W 0 m σ H) ∧ ∀ i m σ H, W i m σ H →
      ((Itl K a).stop i H ∧ D.nx σ H) ∨ ((Itl K a).go i H ∧ ∃ N : St → Hp → Prop, (∀ σ' H', N σ' H' → ∃ m', m' < m ∧ W (i + 1) m' σ' H') ∧ ∀ x H', (Itl K a).yld i H x H' → g x σ H' fun σ2 H2 => tb { D with nx := N, ct := N, bk := D.nx } σ2 H2) := by
  refine ⟨fun i m σ H => m = xs.length - i ∧ i ≤ xs.length ∧ Pv i σ H, ⟨xs.length, by simp, Nat.zero_le _, h0⟩, ?_⟩
  rintro i m σ H ⟨rfl, hi, p⟩
  have q := hl i σ H hi p
  by_cases hlt : i < xs.length
  · refine .inr ⟨⟨xs, xs[i], q, by simp [hlt]⟩, Pv (i + 1), fun σ' H' p' => ⟨xs.length - (i + 1), by omega, rfl, hlt, p'⟩, fun x H' y => ?_⟩
    obtain ⟨e, y⟩ := y
    subst e
    exact hs i x σ _ (y xs q) p
  · have e : i = xs.length := by omega
    subst e
    exact .inl ⟨⟨xs, q, Nat.le_refl _⟩, hd σ H p⟩
theorem for_range {lo : Int} {n : Nat} {g : TG} {tb : TS} {D : Ends} {σ : St} {H : Hp} (Pv : Nat → St → Hp → Prop) (h0 : Pv 0 σ H)
    (hs : ∀ i σ H, i < n → Pv i σ H → g (.int (lo + i)) σ H fun σ2 H2 => tb { D with nx := Pv (i + 1), ct := Pv (i + 1), bk := D.nx } σ2 H2) (hd : ∀ σ H, Pv n σ H → D.nx σ H) :
    ∃ W : Nat → Nat → St → Hp → Prop, (∃ m, W 0 m σ H) ∧ ∀ i m σ H, W i m σ H →
      ((Itr lo n).stop i H ∧ D.nx σ H) ∨ ((Itr lo n).go i H ∧ ∃ N : St → Hp → Prop, (∀ σ' H', N σ' H' → ∃ m', m' < m ∧ W (i + 1) m' σ' H') ∧ ∀ x H', (Itr lo n).yld i H x H' → g x σ H' fun σ2 H2 => tb { D with nx := N, ct := N, bk := D.nx } σ2 H2) := by
  refine ⟨fun i m σ H => m = n - i ∧ i ≤ n ∧ Pv i σ H, ⟨n, by simp, Nat.zero_le _, h0⟩, ?_⟩
  rintro i m σ H ⟨rfl, hi, p⟩
  by_cases hlt : i < n
  · refine .inr ⟨hlt, Pv (i + 1), fun σ' H' p' => ⟨n - (i + 1), by omega, rfl, hlt, p'⟩, fun x H' y => ?_⟩
    obtain ⟨e, y⟩ := y
    subst e y
    exact hs i σ _ hlt p
  · have e : i = n := by omega
    subst e
    exact .inl ⟨Nat.le_refl _, hd σ H p⟩
end L2

namespace L2
open PySem PySem.Spec PyProof.Rows

abbrev R2 := V → V → Hp → VK → Prop
def OpR (X : Cx) (f : Value → Value → Sem Value) (r : R2) : Prop :=
  ∀ (pins : List (Addr × Obj)) (s : Shared) (σ : St) (H : Hp) (x y : V) (v u : Value) (Q : VK), Inv X pins σ H s → RelV x v → RelV y u → r x y H Q →
    wpAny (model X.prog X.w) X.A (f v u) (EP X pins σ Q) X.xe s
def UnR (X : Cx) (f : Value → Sem Value) (r : V → Hp → VK → Prop) : Prop :=
  ∀ (pins : List (Addr × Obj)) (s : Shared) (σ : St) (H : Hp) (x : V) (v : Value) (Q : VK), Inv X pins σ H s → RelV x v → r x H Q →
    wpAny (model X.prog X.w) X.A (f v) (EP X pins σ Q) X.xe s
def CallR (X : Cx) (f : Value) (r : List V → Hp → VK → Prop) : Prop :=
  ∀ (pins : List (Addr × Obj)) (s : Shared) (σ : St) (H : Hp) (xs : List V) (us : List Value) (Q : VK), Inv X pins σ H s → Vals xs us → r xs H Q →
    wpAny (model X.prog X.w) X.A (call f us) (EP X pins σ Q) X.xe s
def TruR (X : Cx) (r : V → Hp → (Bool → Hp → Prop) → Prop) : Prop :=
  ∀ (pins : List (Addr × Obj)) (s : Shared) (σ : St) (H : Hp) (x : V) (v : Value) (Q : Bool → Hp → Prop), Inv X pins σ H s → RelV x v → r x H Q →
    wpAny (model X.prog X.w) X.A (truthy v) (TP X pins σ Q) X.xe s

def tOp (r : R2) (ta tb : TE) : TE := fun σ H Q => ta σ H fun x H1 => tb σ H1 fun y H2 => r x y H2 Q
def tUn (r : V → Hp → VK → Prop) (ta : TE) : TE := fun σ H Q => ta σ H fun x H1 => r x H1 Q
def rI (C : Int → Int → Prop) (g : Int → Int → V) : R2 := fun x y H Q => ∃ i j, x = .int i ∧ y = .int j ∧ C i j ∧ Q (g i j) H
def rI0 (g : Int → Int → V) : R2 := fun x y H Q => ∃ i j, x = .int i ∧ y = .int j ∧ Q (g i j) H
def rU (g : Int → V) : V → Hp → VK → Prop := fun x H Q => ∃ i, x = .int i ∧ Q (g i) H

section
variable {X : Cx} {a b c : Expr} {ta tb tc : TE} {pos : Pos}

theorem binT (ha : PE X a ta) (hb : PE X b tb) {pins : List (Addr × Obj)} {s : Shared} {σ : St} {H : Hp} {R : V → V → Hp → Prop} (I : Inv X pins σ H s)
    (h : ta σ H fun x H1 => tb σ H1 fun y H2 => R x y H2) {Q : Value → Shared → Prop} {f : Value → Value → Sem Value}
    (hf : ∀ v u s2 x y H2, Inv X pins σ H2 s2 → RelV x v → RelV y u → R x y H2 → wpAny (model X.prog X.w) X.A (f v u) Q X.xe s2) :
    wpAny (model X.prog X.w) X.A (eval a X.env) (fun v s₁ => wpAny (model X.prog X.w) X.A (eval b X.env) (fun u s₂ => wpAny (model X.prog X.w) X.A (f v u) Q X.xe s₂) X.xe s₁) X.xe s := by
  refine thn (ha pins s σ H _ I h) fun v s1 ⟨x, H1, I1, r1, q1⟩ => ?_
  refine thn (hb pins s1 σ H1 _ I1 q1) fun u s2 ⟨y, H2, I2, r2, q2⟩ => ?_
  exact hf v u s2 x y H2 I2 r1 r2 q2

theorem pe_op {op : Operator} {r : R2} (ho : OpR X (binaryOp op) r) (ha : PE X a ta) (hb : PE X b tb) : PE X (.BinOp a op b pos) (tOp r ta tb) := by
  intro pins s σ H Q I h
  exact wpAny_BinOp (binT ha hb I h fun v u s2 x y H2 I2 rx ry q => ho pins s2 σ H2 x y v u Q I2 rx ry q)
theorem pe_un {op : UnaryOp} {r : V → Hp → VK → Prop} (ho : UnR X (unaryOp op) r) (ha : PE X a ta) : PE X (.UnaryOp op a pos) (tUn r ta) := by
  intro pins s σ H Q I h
  exact UnaryOp_ (thn (ha pins s σ H _ I h) fun v s1 ⟨x, H1, I1, r1, q1⟩ => ho pins s1 σ H1 x v Q I1 r1 q1)
theorem opI {f : Value → Value → Sem Value} {C : Int → Int → Prop} {g : Int → Int → Int}
    (rule : ∀ (i j : Int) (t u : Tok) (s : Shared) (Q : Value → Shared → Prop) (E : Value → Shared → Prop), C i j → Q (.int (g i j) s.toks) { s with toks := s.toks + 1 } → wpAny (model X.prog X.w) X.A (f (.int i t) (.int j u)) Q E s) :
    OpR X f (rI C fun i j => .int (g i j)) := by
  intro pins s σ H x y v u Q I rx ry h
  obtain ⟨i, j, rfl, rfl, hc, q⟩ := h
  obtain ⟨t, rfl⟩ := rx
  obtain ⟨t', rfl⟩ := ry
  exact rule i j t t' s _ _ hc ⟨.int (g i j), H, I.tok _, ⟨_, rfl⟩, q⟩
theorem opI0 {f : Value → Value → Sem Value} {g : Int → Int → Int}
    (rule : ∀ (i j : Int) (t u : Tok) (s : Shared) (Q : Value → Shared → Prop) (E : Value → Shared → Prop), Q (.int (g i j) s.toks) { s with toks := s.toks + 1 } → wpAny (model X.prog X.w) X.A (f (.int i t) (.int j u)) Q E s) :
    OpR X f (rI0 fun i j => .int (g i j)) := by
  intro pins s σ H x y v u Q I rx ry h
  obtain ⟨i, j, rfl, rfl, q⟩ := h
  obtain ⟨t, rfl⟩ := rx
  obtain ⟨t', rfl⟩ := ry
  exact rule i j t t' s _ _ ⟨.int (g i j), H, I.tok _, ⟨_, rfl⟩, q⟩
theorem opB0 {f : Value → Value → Sem Value} {g : Int → Int → Bool}
    (rule : ∀ (i j : Int) (t u : Tok) (s : Shared) (Q : Value → Shared → Prop) (E : Value → Shared → Prop), Q (.bool (g i j)) s → wpAny (model X.prog X.w) X.A (f (.int i t) (.int j u)) Q E s) :
    OpR X f (rI0 fun i j => .bl (g i j)) := by
  intro pins s σ H x y v u Q I rx ry h
  obtain ⟨i, j, rfl, rfl, q⟩ := h
  obtain ⟨t, rfl⟩ := rx
  obtain ⟨t', rfl⟩ := ry
  exact rule i j t t' s _ _ ⟨.bl (g i j), H, I, rfl, q⟩

def CDiv (i j : Int) : Prop := 0 < j ∧ j < 1073741824
def CPow (i j : Int) : Prop := 0 ≤ j ∧ j ≤ 1000000 ∧ i.natAbs < 2 ^ 64
def CMul (i j : Int) : Prop := (-(2 ^ 64) < i ∧ i < 2 ^ 64) ∨ (-(2 ^ 64) < j ∧ j < 2 ^ 64)
theorem CMul.ok {i j : Int} (h : CMul i j) : IntMulOk i j := by
  rcases h with ⟨h1, h2⟩ | ⟨h1, h2⟩
  · exact .of_left (intBits_le_64 h1 h2)
  · exact .of_right (intBits_le_64 h1 h2)
theorem op_add : OpR X (binaryOp .Add) (rI0 fun i j => .int (i + j)) := opI0 fun _ _ _ _ _ _ _ q => add_int q
theorem op_sub : OpR X (binaryOp .Sub) (rI0 fun i j => .int (i - j)) := opI0 fun _ _ _ _ _ _ _ q => sub_int q
theorem op_mul : OpR X (binaryOp .Mult) (rI CMul fun i j => .int (i * j)) := opI fun _ _ _ _ _ _ _ hc q => mul_int q hc.ok
theorem op_fdiv : OpR X (binaryOp .FloorDiv) (rI CDiv fun i j => .int (i / j)) := opI fun i j _ _ _ _ _ hc q => by
  have h1 : (0 : Int) < j := hc.1
  have h2 : j < 1073741824 := hc.2
  exact floordiv_int (by omega) (by rw [Int.fdiv_eq_ediv_of_nonneg i (by omega)]; exact q) (.inl (PyProof.noPylong_small (by omega)))
theorem op_mod : OpR X (binaryOp .Mod) (rI (fun _ j => 0 < j) fun i j => .int (i % j)) := opI fun i j _ _ _ _ _ hc q => by
  have h1 : (0 : Int) < j := hc
  exact mod_int' (by omega) (by rw [Int.fmod_eq_emod_of_nonneg i (by omega)]; exact q)
theorem op_pow : OpR X (binaryOp .Pow) (rI CPow fun i j => .int (i ^ j.toNat)) := opI fun _ _ _ _ _ _ _ hc q => pow_int_small hc.1 hc.2.1 hc.2.2 q
theorem unI {f : Value → Sem Value} {g : Int → Int}
    (rule : ∀ (i : Int) (t : Tok) (s : Shared) (Q : Value → Shared → Prop) (E : Value → Shared → Prop), Q (.int (g i) s.toks) { s with toks := s.toks + 1 } → wpAny (model X.prog X.w) X.A (f (.int i t)) Q E s) :
    UnR X f (rU fun i => .int (g i)) := by
  intro pins s σ H x v Q I rx h
  obtain ⟨i, rfl, q⟩ := h
  obtain ⟨t, rfl⟩ := rx
  exact rule i t s _ _ ⟨.int (g i), H, I.tok _, ⟨_, rfl⟩, q⟩
theorem un_neg : UnR X (unaryOp .USub) (rU fun i => .int (-i)) := unI fun _ _ _ _ _ q => neg_int q
end

def scal : V → V → Bool
  | .non, .non => true | .non, .int _ => true | .int _, .non => true | .non, .bl _ => true | .bl _, .non => true | .non, .str _ => true | .str _, .non => true
  | .int _, .int _ => true | .bl _, .bl _ => true | .str _, .str _ => true | .byt _, .byt _ => true
  | .int _, .str _ => true | .str _, .int _ => true | .bl _, .str _ => true | .str _, .bl _ => true
  | _, _ => false
def rEq : R2 := fun x y H Q => scal x y = true ∧ Q (.bl (decide (x = y))) H
def rNe : R2 := fun x y H Q => scal x y = true ∧ Q (.bl (!decide (x = y))) H

theorem dec_int {i j : Int} : decide (V.int i = V.int j) = (i == j) := by
  rw [Bool.eq_iff_iff]
  simp
theorem dec_bl {i j : Bool} : decide (V.bl i = V.bl j) = (i == j) := by
  rw [Bool.eq_iff_iff]
  simp
theorem dec_str {i j : Str} : decide (V.str i = V.str j) = (i == j) := by
  rw [Bool.eq_iff_iff]
  simp
theorem dec_byt {i j : Array UInt8} : decide (V.byt i = V.byt j) = (i.toList == j.toList) := by
  rw [Bool.eq_iff_iff]
  cases i
  cases j
  simp

section
variable {X : Cx} {a b c : Expr} {ta tb tc : TE} {pos : Pos}
theorem fin_bl {pins : List (Addr × Obj)} {σ : St} {H : Hp} {s : Shared} {Q : VK} {k k' : Bool} (I : Inv X pins σ H s) (q : Q (.bl k) H) (e : k = k') : EP X pins σ Q (.bool k') s := by
  subst e
  exact ⟨.bl k, H, I, rfl, q⟩
theorem op_eq : OpR X (compareOp .Eq) rEq := by
  intro pins s σ H x y v u Q I rx ry h
  obtain ⟨hs, q⟩ := h
  cases x with
  | non =>
    cases rx
    cases y with
    | non => cases ry; exact PySem.EqNone.eq_none_none (fin_bl I q (by simp))
    | bl j => cases ry; exact PySem.EqNone.eq_none_bool (fin_bl I q (by simp))
    | int j => obtain ⟨t', rfl⟩ := ry; exact PySem.EqNone.eq_none_int (fin_bl I q (by simp))
    | str j => obtain ⟨t', rfl⟩ := ry; exact PySem.EqNone.eq_none_str (fin_bl I q (by simp))
    | _ => exact absurd (show false = true from hs) Bool.false_ne_true
  | bl i =>
    cases rx
    cases y with
    | non => cases ry; exact PySem.EqNone.eq_bool_none (fin_bl I q (by simp))
    | bl j => cases ry; exact eq_bool (fin_bl I q dec_bl)
    | str j => obtain ⟨t', rfl⟩ := ry; exact PySem.EqMixed.eq_bool_str (fin_bl I q (by simp))
    | _ => exact absurd (show false = true from hs) Bool.false_ne_true
  | int i =>
    obtain ⟨t, rfl⟩ := rx
    cases y with
    | non => cases ry; exact PySem.EqNone.eq_int_none (fin_bl I q (by simp))
    | int j => obtain ⟨t', rfl⟩ := ry; exact eq_int (fin_bl I q dec_int)
    | str j => obtain ⟨t', rfl⟩ := ry; exact PySem.EqMixed.eq_int_str (fin_bl I q (by simp))
    | _ => exact absurd (show false = true from hs) Bool.false_ne_true
  | str i =>
    obtain ⟨t, rfl⟩ := rx
    cases y with
    | non => cases ry; exact PySem.EqNone.eq_str_none (fin_bl I q (by simp))
    | bl j => cases ry; exact PySem.EqMixed.eq_str_bool (fin_bl I q (by simp))
    | int j => obtain ⟨t', rfl⟩ := ry; exact PySem.EqMixed.eq_str_int (fin_bl I q (by simp))
    | str j => obtain ⟨t', rfl⟩ := ry; exact eq_str (fin_bl I q dec_str)
    | _ => exact absurd (show false = true from hs) Bool.false_ne_true
  | byt i =>
    obtain ⟨t, rfl⟩ := rx
    cases y with
    | byt j => obtain ⟨t', rfl⟩ := ry; exact PySem.W.eq_bytes (fin_bl I q dec_byt)
    | _ => exact absurd (show false = true from hs) Bool.false_ne_true
  | _ => cases y <;> exact absurd (show false = true from hs) Bool.false_ne_true
theorem op_ne : OpR X (compareOp .NotEq) rNe := by
  intro pins s σ H x y v u Q I rx ry h
  obtain ⟨hs, q⟩ := h
  cases x with
  | non =>
    cases rx
    cases y with
    | non => cases ry; exact PySem.EqNone.ne_none_none (fin_bl I q (by simp))
    | bl j => cases ry; exact PySem.EqNone.ne_none_bool (fin_bl I q (by simp))
    | int j => obtain ⟨t', rfl⟩ := ry; exact PySem.EqNone.ne_none_int (fin_bl I q (by simp))
    | str j => obtain ⟨t', rfl⟩ := ry; exact PySem.EqNone.ne_none_str (fin_bl I q (by simp))
    | _ => exact absurd (show false = true from hs) Bool.false_ne_true
  | bl i =>
    cases rx
    cases y with
    | non => cases ry; exact PySem.EqNone.ne_bool_none (fin_bl I q (by simp))
    | bl j => cases ry; exact ne_bool (fin_bl I q (congrArg not dec_bl))
    | str j => obtain ⟨t', rfl⟩ := ry; exact PySem.EqMixed.ne_bool_str (fin_bl I q (by simp))
    | _ => exact absurd (show false = true from hs) Bool.false_ne_true
  | int i =>
    obtain ⟨t, rfl⟩ := rx
    cases y with
    | non => cases ry; exact PySem.EqNone.ne_int_none (fin_bl I q (by simp))
    | int j => obtain ⟨t', rfl⟩ := ry; exact ne_int (fin_bl I q (congrArg not dec_int))
    | str j => obtain ⟨t', rfl⟩ := ry; exact PySem.EqMixed.ne_int_str (fin_bl I q (by simp))
    | _ => exact absurd (show false = true from hs) Bool.false_ne_true
  | str i =>
    obtain ⟨t, rfl⟩ := rx
    cases y with
    | non => cases ry; exact PySem.EqNone.ne_str_none (fin_bl I q (by simp))
    | bl j => cases ry; exact PySem.EqMixed.ne_str_bool (fin_bl I q (by simp))
    | int j => obtain ⟨t', rfl⟩ := ry; exact PySem.EqMixed.ne_str_int (fin_bl I q (by simp))
    | str j => obtain ⟨t', rfl⟩ := ry; exact ne_str (fin_bl I q (congrArg not dec_str))
    | _ => exact absurd (show false = true from hs) Bool.false_ne_true
  | byt i =>
    obtain ⟨t, rfl⟩ := rx
    cases y with
    | byt j => obtain ⟨t', rfl⟩ := ry; exact PySem.W.ne_bytes (fin_bl I q (congrArg not dec_byt))
    | _ => exact absurd (show false = true from hs) Bool.false_ne_true
  | _ => cases y <;> exact absurd (show false = true from hs) Bool.false_ne_true

theorem op_lt : OpR X (compareOp .Lt) (rI0 fun i j => .bl (decide (i < j))) := opB0 fun _ _ _ _ _ _ _ q => lt_int q
theorem op_le : OpR X (compareOp .LtE) (rI0 fun i j => .bl (decide (i ≤ j))) := opB0 fun _ _ _ _ _ _ _ q => le_int q
theorem op_gt : OpR X (compareOp .Gt) (rI0 fun i j => .bl (decide (j < i))) := opB0 fun _ _ _ _ _ _ _ q => gt_int q
theorem nomark (b : Expr) {op : CmpOp} (h : op ≠ .In := by decide) (h2 : op ≠ .NotIn := by decide) : behindInMarks op b = false := by
  have e1 : (op == CmpOp.In) = false := by cases op <;> first | rfl | exact absurd rfl h
  have e2 : (op == CmpOp.NotIn) = false := by cases op <;> first | rfl | exact absurd rfl h2
  cases b <;> simp [behindInMarks, e1, e2]
def tTest (t : TE) : TT := fun σ H Q => t σ H fun x H' => ∃ k, x = .bl k ∧ Q k H'
theorem pt_cmpR {op : CmpOp} {r : R2} (ho : OpR X (compareOp op) r) (ha : PE X a ta) (hb : PE X b tb) (hm : behindInMarks op b = false) : PT X (.Compare a [op] [b] pos) (tTest (tOp r ta tb)) := by
  intro pins s σ H Q I h
  refine wpAny_isTrue_Compare1 (thn (ha pins s σ H _ I h) fun v s1 ⟨x, H1, I1, r1, q1⟩ => thn (hb pins s1 σ H1 _ I1 q1) fun u s2 ⟨y, H2, I2, r2, q2⟩ =>
    thn (ho pins s2 σ H2 x y v u _ I2 r1 r2 q2) fun c s3 ⟨z, H3, I3, r3, k, e, q3⟩ => ?_) hm
  subst e
  cases r3
  exact wpAny_truthy_bool ⟨H3, I3, q3⟩
def TruV (K : PySem.W.Frag) (x : V) (H : Hp) (k : Bool) : Prop :=
  match x with
  | .non => k = false
  | .bl b => k = b
  | .int i => k = (i != 0)
  | .str y => y.length ≤ sizeLine ∧ k = ((y.length : Int) != 0)
  | .byt y => y.size ≤ sizeLine ∧ k = ((y.size : Int) != 0)
  | .ref p => (∃ xs, SqL K H p xs ∧ k = !xs.isEmpty) ∨ (∃ xs, SqT K H p xs ∧ k = !xs.isEmpty) ∨ ∃ kvs, H p = some (.dK kvs) ∧ k = !kvs.isEmpty
  | _ => False
theorem isEmpty_kv {κ : Type} {kvs : List (κ × V)} {vs : List (κ × Value)} (r : KV kvs vs) : (!vs.isEmpty) = !kvs.isEmpty := by
  cases r <;> rfl
theorem isEmpty_of {xs : List V} {its : List Value} (r : Vals xs its) : (!its.toArray.isEmpty) = !xs.isEmpty := by
  cases r <;> simp
theorem line63 : (sizeLine : Nat) < 2 ^ 63 := by rw [sizeLine_eq]; decide
theorem tru_ok : TruR X (fun x H Q => ∃ k, TruV X.K x H k ∧ Q k H) := by
  intro pins s σ H x v Q I rx h
  obtain ⟨k, e, q⟩ := h
  have hl := line63
  have hs : sizeLine = 16777216 := sizeLine_eq
  cases x with
  | non =>
    cases rx
    have e' : k = false := e
    subst e'
    exact truthy_none ⟨H, I, q⟩
  | bl b =>
    cases rx
    have e' : k = b := e
    subst e'
    exact wpAny_truthy_bool ⟨H, I, q⟩
  | int i =>
    obtain ⟨t, rfl⟩ := rx
    have e' : k = (i != 0) := e
    subst e'
    exact PySem.P.truthy_int ⟨H, I, q⟩
  | str y =>
    obtain ⟨t, rfl⟩ := rx
    obtain ⟨hy, e'⟩ : y.length ≤ sizeLine ∧ k = ((y.length : Int) != 0) := e
    subst e'
    exact PySem.P.truthy_str (by omega) ⟨H, I.tok _, q⟩
  | byt y =>
    obtain ⟨t, rfl⟩ := rx
    obtain ⟨hy, e'⟩ : y.size ≤ sizeLine ∧ k = ((y.size : Int) != 0) := e
    subst e'
    exact PySem.W.truthy_bytes (by omega) ⟨H, I.tok _, q⟩
  | ref p =>
    cases rx
    have e' : (∃ xs, SqL X.K H p xs ∧ k = !xs.isEmpty) ∨ (∃ xs, SqT X.K H p xs ∧ k = !xs.isEmpty) ∨ ∃ kvs, H p = some (.dK kvs) ∧ k = !kvs.isEmpty := e
    rcases e' with ⟨xs, hx, e'⟩ | ⟨xs, hx, e'⟩ | ⟨kvs, hx, e'⟩
    · subst e'
      obtain ⟨its, r, pl, hz⟩ := I.list hx
      have hlen := r.length
      exact wpAny_truthy_list pl.isList (by simp only [List.size_toArray]; omega) ⟨H, I.tok _, by rw [isEmpty_of r]; exact q⟩
    · subst e'
      obtain ⟨its, r, pl, hz⟩ := I.tuple hx
      have hlen := r.length
      exact truthy_tuple pl (by simp only [List.size_toArray]; omega) ⟨H, I.tok _, by rw [isEmpty_of r]; exact q⟩
    · subst e'
      obtain ⟨hz, hS, vs, r, m⟩ : kvs.length ≤ sizeLine ∧ (p == sysModules) = false ∧ ∃ vs, KV kvs vs ∧ s.heap.DictOf (mixKind X.prog X.w) p vs := I.hok p _ hx
      have hlen : kvs.length = vs.length := Paired.length r
      exact wpAny_truthy_dict hS m (by omega) ⟨H, I.tok _, by rw [isEmpty_kv r]; exact q⟩
  | _ => exact (show False from e).elim
theorem pt_truth (ha : PE X a ta) (he : ∀ whole, isTrue a X.env whole = (do let v ← whole; standAt a.pos; holding [v] (truthy v))) :
    PT X a (fun σ H Q => ta σ H fun x H' => ∃ k, TruV X.K x H' k ∧ Q k H') := by
  intro pins s σ H Q I h
  exact isTrue_plain (thn (ha pins s σ H _ I h) fun v s1 ⟨x, H1, I1, r1, q1⟩ => tru_ok pins s1 σ H1 x v Q I1 r1 q1) (he _)

theorem vals1 {x : V} {us : List Value} (r : Vals [x] us) : ∃ u, us = [u] ∧ RelV x u := by
  cases r with
  | cons r1 r2 => cases r2; exact ⟨_, rfl, r1⟩
theorem vals2 {x y : V} {us : List Value} (r : Vals [x, y] us) : ∃ u w', us = [u, w'] ∧ RelV x u ∧ RelV y w' := by
  cases r with
  | cons r1 r2 =>
    cases r2 with
    | cons r3 r4 => cases r4; exact ⟨_, _, rfl, r1, r3⟩
theorem call_max2 (hc : X.calm = true) : CallR X (.builtin "max") (fun xs H Q => ∃ i j, xs = [.int i, .int j] ∧ Q (.int (if j > i then j else i)) H) := by
  intro pins s σ H xs us Q I r h
  obtain ⟨i, j, rfl, q⟩ := h
  obtain ⟨u, w', rfl, ⟨t, rfl⟩, ⟨t', rfl⟩⟩ := vals2 r
  refine max_two_ints (I.ok.hd hc) fun h' tk k => ⟨_, H, I.kept k, ?_, q⟩
  by_cases hj : j > i
  · rw [if_pos hj, if_pos hj]; exact ⟨_, rfl⟩
  · rw [if_neg hj, if_neg hj]; exact ⟨_, rfl⟩
theorem call_min2 (hc : X.calm = true) : CallR X (.builtin "min") (fun xs H Q => ∃ i j, xs = [.int i, .int j] ∧ Q (.int (if j < i then j else i)) H) := by
  intro pins s σ H xs us Q I r h
  obtain ⟨i, j, rfl, q⟩ := h
  obtain ⟨u, w', rfl, ⟨t, rfl⟩, ⟨t', rfl⟩⟩ := vals2 r
  refine min_two_ints (I.ok.hd hc) fun h' tk k => ⟨_, H, I.kept k, ?_, q⟩
  by_cases hj : j < i
  · rw [if_pos hj, if_pos hj]; exact ⟨_, rfl⟩
  · rw [if_neg hj, if_neg hj]; exact ⟨_, rfl⟩
end
end L2

namespace L2
open PySem PySem.Spec PyProof.Rows

structure ObjM (h : Heap) (x dx C : Addr) (mA : Str → Option Value) : Prop where
  obj : h.get? x = some (PySem.W.instObj C dx)
  ns : h.Ns1 dx mA
  ne : dx ≠ x

theorem lookIn_ns {h : Heap} {dx : Addr} {mA : Str → Option Value} (n : h.Ns1 dx mA) : ∃ od, h.get? dx = some od ∧ ∀ name, PySem.W.lookIn name od = some (mA name) := by
  obtain ⟨o, es, ep, ho, hd, hk, _, hm⟩ := n
  refine ⟨o, ho, fun name => ?_⟩
  have e := hm name
  unfold nsFind findBy at e
  rw [← Array.find?_toList] at e
  unfold PySem.W.lookIn
  rw [hd]
  dsimp only
  split
  · rename_i y q
    rw [q] at e
    exact congrArg some e
  · rename_i q
    rw [q] at e
    have a : es.toList.any (·.refKey) = false := by
      rw [List.any_eq_false]
      intro y hy
      obtain ⟨z, t, hkey⟩ := hk y (Array.mem_toList_iff.mp hy)
      simp [DictEntry.refKey, hkey]
    have a' : ¬ es.toList.any (·.refKey) = true := by rw [a]; exact Bool.false_ne_true
    rw [if_neg a']
    exact congrArg some e

theorem ObjM.look {h : Heap} {x dx C : Addr} {mA : Str → Option Value} (I : ObjM h x dx C mA) : ∃ od, PySem.W.InstAt h x (PySem.W.instObj C dx) C (some od) ∧ ∀ name, PySem.W.lookIn name od = some (mA name) :=
  let ⟨od, ho, hl⟩ := lookIn_ns I.ns
  ⟨od, ⟨I.obj, rfl, rfl, ho⟩, hl⟩

section
variable {prog : Program} {w : World} {A : Around} {E : Value → Shared → Prop} {s : Shared} {K : PySem.W.Frag} {x dx C f : Addr} {mA : Str → Option Value} {name : Str} {v : Value}

end

section
variable {P : Program} {w : World} {H H' : Hp} {h h' : Heap} {a C dx : Addr} {fs fs' : List (Str × V)}
theorem ins_get (hok : HOk P w H h) (e : H a = some (.ins C dx fs)) : ∃ mA, ObjM h a dx C mA ∧ (∀ f, RelO (fs.lookup f) (mA f)) ∧ PySem.Within mA (fs.map (·.1)) ∧ fs.length ≤ 1000 ∧ H dx = some (.own a) := by
  obtain ⟨d, z, ne, ob, mA, n, r, q⟩ := (show ObjOk P w H h a (.ins C dx fs) from hok a _ e)
  exact ⟨mA, ⟨ob, n, ne⟩, r, q, z, d⟩
end

structure Cls (K : PySem.W.Frag) (C : Addr) : Prop where
  pg : PySem.W.plainGet K C Str.empty = true
  hd : PySem.W.hasDictIn K C = true
  po : PySem.W.plainOver K C = true
  sa : PySem.W.findIn K (.ref C) "__setattr__" = some (some (.builtin "object.__setattr__"))
theorem Cls.get {K : PySem.W.Frag} {C : Addr} (c : Cls K C) (f : Str) : PySem.W.plainGet K C f = true := c.pg
section
variable {X : Cx} {pins : List (Addr × Obj)} {σ : St} {H : Hp} {s : Shared} {a C dx : Addr} {fs : List (Str × V)} {f : Str} {v : V} {A : Around} {E : Value → Shared → Prop}

end

section
variable {X : Cx} {o e value : Expr} {f : Str} {pos pos' tpos : Pos} {ta tv : TE}
end

section
variable {X : Cx} {pins : List (Addr × Obj)} {σ : St} {H : Hp} {s : Shared} {A : Around} {E : Value → Shared → Prop} {Q : Value → Shared → Prop} {c : Value} {b : Bool}
inductive TyOf (K : PySem.W.Frag) (H : Hp) : V → Value → Prop where
  | non : TyOf K H .non (.type "NoneType")
  | bl (x : Bool) : TyOf K H (.bl x) (.type "bool")
  | int (i : Int) : TyOf K H (.int i) (.type "int")
  | str (x : Str) : TyOf K H (.str x) (.type "str")
  | flt (x : UInt64) : TyOf K H (.flt x) (.type "float")
  | lst {a : Addr} {xs : List V} (e : H a = some (.lst xs)) : TyOf K H (.ref a) (.type "list")
  | frz {a : Addr} {o : Obj} {xs : List V} (e : H a = some (.frz o (.lst xs))) : TyOf K H (.ref a) (.type "list")
  | tup {a : Addr} {xs : List V} (e : H a = some (.tup xs)) : TyOf K H (.ref a) (.type "tuple")
  | dK {a : Addr} {kvs : List (Key × V)} (e : H a = some (.dK kvs)) : TyOf K H (.ref a) (.type "dict")
  | dT {a : Addr} {kvs : List (List Key × V)} (e : H a = some (.dT kvs)) : TyOf K H (.ref a) (.type "dict")
  | ins {a C dx : Addr} {fs : List (Str × V)} (e : H a = some (.ins C dx fs)) (cl : Cls K C) (ha : PySem.W.findIn K (.ref C) "__class__" = some (some (.builtin "object.__class__")))
      (hn : PySem.W.specialIn K (.builtin "object.__class__") "__get__" = some (some (.builtin "getset_descriptor.__get__"))) (htk : PySem.W.takesIn K (.builtin "object.__class__") = some true)
      (hm : PySem.W.mroIn K C (.type "object") = some true) : TyOf K H (.ref a) (.ref C)
theorem isinst_ok {x : V} {u t : Value} (I : Inv X pins σ H s) (rx : RelV x u) (ty : TyOf X.K H x t) (e : PySem.W.kitOne X.K t c = some b) (h : ∀ tk, Q (.bool b) { s with toks := tk }) :
    wpAny (model X.prog X.w) A (call (.builtin "isinstance") [u, c]) Q E s := by
  cases ty with
  | non => cases (show u = Value.none from rx); exact PySem.W.kia_one PySem.W.kitx_none I.kIn True.intro e (fun z => nomatch z) h
  | bl y => cases (show u = Value.bool y from rx); exact PySem.W.kia_one PySem.W.kitx_bool I.kIn True.intro e (fun z => nomatch z) h
  | int i => obtain ⟨t, q⟩ := (show ∃ t, u = Value.int i t from rx); cases q; exact PySem.W.kia_one PySem.W.kitx_int I.kIn True.intro e (fun z => nomatch z) h
  | str y => obtain ⟨t, q⟩ := (show ∃ t, u = Value.str y t from rx); cases q; exact PySem.W.kia_one PySem.W.kitx_str I.kIn True.intro e (fun z => nomatch z) h
  | flt y => obtain ⟨t, q⟩ := (show ∃ t, u = Value.float y t from rx); cases q; exact PySem.W.kia_one PySem.W.kitx_float I.kIn True.intro e (fun z => nomatch z) h
  | @lst a xs ea =>
    cases (show u = Value.ref a from rx)
    obtain ⟨_, _, n, _, h1⟩ := (show ObjOk X.prog X.w H s.heap a (.lst xs) from I.hok a _ ea)
    exact PySem.W.kia_one PySem.W.kitx_list I.kIn ⟨_, h1, rfl⟩ e (fun z => nomatch z) h
  | @frz a ob xs ea =>
    cases (show u = Value.ref a from rx)
    obtain ⟨_, _, _, n, _, h1⟩ := (show ObjOk X.prog X.w H s.heap a (.frz ob (.lst xs)) from I.hok a _ ea)
    exact PySem.W.kia_one PySem.W.kitx_list I.kIn ⟨_, h1, rfl⟩ e (fun z => nomatch z) h
  | @tup a xs ea =>
    cases (show u = Value.ref a from rx)
    obtain ⟨_, _, _, p⟩ := (show ObjOk X.prog X.w H s.heap a (.tup xs) from I.hok a _ ea)
    obtain ⟨o, h1, h2, _⟩ := p
    exact PySem.W.kia_one PySem.W.kitx_tuple I.kIn ⟨o, h1, h2⟩ e (fun z => nomatch z) h
  | @dK a kvs ea =>
    cases (show u = Value.ref a from rx)
    obtain ⟨_, _, vs, _, p⟩ := (show ObjOk X.prog X.w H s.heap a (.dK kvs) from I.hok a _ ea)
    obtain ⟨o, es, ep, h1, h2, _⟩ := p
    exact PySem.W.kia_one PySem.W.kitx_dict I.kIn ⟨o, h1, h2.1⟩ e (fun z => nomatch z) h
  | @dT a kvs ea =>
    cases (show u = Value.ref a from rx)
    obtain ⟨_, _, xs, _, o, es, ep, h1, h2, _⟩ := (show ObjOk X.prog X.w H s.heap a (.dT kvs) from I.hok a _ ea)
    exact PySem.W.kia_one PySem.W.kitx_dict I.kIn ⟨o, h1, h2.1⟩ e (fun z => nomatch z) h
  | @ins a C dx fs ea cl ha hn htk hm =>
    cases (show u = Value.ref a from rx)
    obtain ⟨mA, O, _⟩ := ins_get I.hok ea
    obtain ⟨od, J, _⟩ := O.look
    exact PySem.W.kia_one (PySem.W.kitx_own (cl.get _) cl.hd ha hn htk hm) I.kIn J e (fun z => nomatch z) h
end
end L2

namespace L2
open PySem PySem.Spec PyProof.Rows

structure Room (k : Nat) (A : Around) : Prop where
  hd : A.handled = none
  dp : A.depth + 3 * k + 5 < recursionLimit
  un : A.units + 16 * k + 200 < cLine
theorem Room.mono {j k : Nat} {A : Around} (r : Room k A) (h : j ≤ k) : Room j A := ⟨r.hd, by have := r.dp; omega, by have := r.un; omega⟩
theorem Room.deeper {k : Nat} {A : Around} (r : Room (k + 1) A) (env : Env) : Room k (A.deeper env) :=
  ⟨r.hd, by have := r.dp; show A.depth + 1 + 3 * k + 5 < _; omega, by have := r.un; show A.units + 3 + 16 * k + 200 < _; omega⟩
theorem Room.depth {k : Nat} {A : Around} (r : Room k A) : A.depth < recursionLimit := by have := r.dp; omega
theorem Room.units {k : Nat} {A : Around} (r : Room k A) : A.units + 64 < cLine := by have := r.un; omega
def tNil : TA := fun _ H Q => Q [] H
def tCons (ta : TE) (tr : TA) : TA := fun σ H Q => ta σ H fun x H1 => tr σ H1 fun xs H2 => Q (x :: xs) H2
section
variable {X : Cx} {e : Expr} {es : List Expr} {te : TE} {t : TA} {pos : Pos}
theorem pa_nil : PA X [] tNil := fun _ _ _ _ H Q I h => Calls.spliced_nil ⟨[], H, I, .nil, h⟩
theorem pa_cons (ha : PE X e te) (hr : PA X es t) (hs : starEach (e :: es) X.env = (false, eval e X.env) :: starEach es X.env := by rfl) : PA X (e :: es) (tCons te t) := by
  intro pos pins s σ H Q I h
  rw [hs]
  show wpAny _ _ (spliced ((false, eval e X.env) :: backTo pos (starEach es X.env))) _ _ s
  refine Calls.spliced_cons (thn (ha pins s σ H _ I h) fun u s1 ⟨x, H1, I1, r1, q1⟩ => ?_)
  exact thn (hr pos pins s1 σ H1 _ I1 q1) fun us s2 ⟨xs, H2, I2, r2, q2⟩ => ⟨x :: xs, H2, I2, .cons r1 r2, q2⟩

def tTup (t : TA) : TE := fun σ H Q => t σ H fun xs H1 => xs.length ≤ sizeLine ∧ ∀ p, H1 p = none → Q (.ref p) (upd H1 p (.tup xs))
def tLst (t : TA) : TE := fun σ H Q => t σ H fun xs H1 => xs.length ≤ sizeLine ∧ ∀ p, H1 p = none → Q (.ref p) (upd H1 p (.lst xs))
theorem pe_tup {x1} (h : PA X es t) : PE X (.Tuple es x1 pos) (tTup t) := by
  intro pins s σ H Q I hq
  refine wpAny_Tuple_spliced (thn (h pos pins s σ H _ I hq) fun us s1 ⟨xs, H1, I1, r, z, q⟩ => ⟨by rw [← r.length]; exact z, ?_⟩)
  have hf : H1 s1.heap.objs.size = none := I1.hok.fresh (Nat.le_refl _)
  refine ⟨.ref s1.heap.objs.size, upd H1 s1.heap.objs.size (.tup xs), I1.laid (t' := s1.toks) (fun b u e => Heap.get?_push_of_some _ e) (Nat.le_refl _) ?_, rfl, q _ hf⟩
  exact ⟨z, us, r, ⟨_, Heap.get?_push_size _ rfl, rfl, _, rfl⟩⟩
theorem pe_lst (h : PA X es t) : PE X (.List es pos) (tLst t) := by
  intro pins s σ H Q I hq
  refine wpAny_List_spliced (thn (h pos pins s σ H _ I hq) fun us s1 ⟨xs, H1, I1, r, z, q⟩ => ⟨by rw [← r.length]; exact z, ?_⟩)
  have hf : H1 s1.heap.objs.size = none := I1.hok.fresh (Nat.le_refl _)
  refine ⟨.ref s1.heap.objs.size, upd H1 s1.heap.objs.size (.lst xs), I1.laid (t' := s1.toks) (fun b u e => Heap.get?_push_of_some _ e) (Nat.le_refl _) ?_, rfl, q _ hf⟩
  exact ⟨z, us, 0, r, Heap.get?_push_size _ rfl⟩
end

abbrev Sp := List V → Hp → VK → XK → Prop
abbrev CXT := List Env → Hp → Shared → XK → Value → Shared → Prop

structure Env0 (P : Program) (w : World) (K : PySem.W.Frag) (mg : Str → Option Value) (base : Heap) (A : Around) (outer : List Env) (s : Shared) (H : Hp) : Prop where
  frames : A.frames = some outer
  mod : Mod K mg base
  bs : ∀ b o, base.get? b = some o → s.heap.get? b = some o ∧ H b = none
  bsz : base.objs.size ≤ s.heap.objs.size
  funs : s.heap.FunFrames base outer
  frf : ∀ b ∈ frs outer, H b = none
  hok : HOk P w H s.heap
  bare : AllBare s.gens
def CE (outer : List Env) (P : Program) (w : World) (H : Hp) (s : Shared) (Q : VK) (u : Value) (s' : Shared) : Prop :=
  ∃ v H', s'.os = s.os ∧ AllBare s'.gens ∧ Un (frs outer) [] H H' s.heap s'.heap ∧ HOk P w H' s'.heap ∧ RelV v u ∧ Q v H'
def CR (CX : CXT) (outer : List Env) (P : Program) (w : World) (H : Hp) (s : Shared) (Q : VK) (E : XK) (r : Result) (s' : Shared) : Prop :=
  match r with
  | .ok (.ret u) => CE outer P w H s Q u s'
  | .ok _ => False
  | .error e => CX outer H s E e s'
structure FnOk (P : Program) (w : World) (K : PySem.W.Frag) (mg : Str → Option Value) (base : Heap) (CX : CXT) (k : Nat) (f : Addr) (fd : FuncData) (ps : List Str) (sp : Sp) : Prop where
  len : ∀ vs H Q E, sp vs H Q E → vs.length = ps.length
  run : ∀ (A : Around) (outer : List Env) (s : Shared) (H : Hp) (args : Args) (us : List Value) (vs : List V) (Q : VK) (E : XK), Room k A → Env0 P w K mg base A outer s H → BindsTo s fd args (ps.zip us) → Vals vs us → sp vs H Q E →
    codeAny (model P w) A (.call (.ref f) args) (CR CX outer P w H s Q E) s
section
variable {X : Cx} {pins : List (Addr × Obj)} {σ : St} {H : Hp} {s s' : Shared}
theorem Inv.env0 (I : Inv X pins σ H s) : Env0 X.prog X.w X.K X.mg X.base X.A X.stack s H :=
  ⟨I.ok.frames, I.ok.mod, I.bs, Nat.le_trans I.ok.bsz I.sz, I.stack, I.stkFree, I.hok, I.bare⟩
theorem Inv.after {Q : VK} {u : Value} (I : Inv X pins σ H s) (h : CE X.stack X.prog X.w H s Q u s') : EP X pins σ Q u s' := by
  obtain ⟨v, H', os, bare, un, hok, r, q⟩ := h
  obtain ⟨hh, g, d, t, os'⟩ := s'
  obtain rfl : os' = s.os := os
  exact ⟨v, H', I.call (h' := hh) (g' := g) (d' := d) (t' := t) (ch := []) un hok bare (fun b z => absurd z (by simp)), r, q⟩
end

def tCall (sp : Sp) (dvs : List V) (E : XK) (t : TA) : TE := fun σ H Q => t σ H fun vs H1 => sp (vs ++ dvs) H1 Q E
def Binds (K : PySem.W.Frag) (fd : FuncData) (ps : List Str) (ds : List Value) : Prop :=
  ∀ (s : Shared) (us : List Value), K.In s.heap → (us ++ ds).length = ps.length → BindsTo s fd ⟨us, []⟩ (ps.zip (us ++ ds))
theorem Binds.all {K : PySem.W.Frag} {fd : FuncData} {ps : List Str} (h : ∀ us : List Value, us.length = ps.length → bindArgs fd ⟨us, []⟩ = pure (ps.zip us)) : Binds K fd ps [] := fun s us _ hl => by
  rw [List.append_nil] at hl ⊢
  exact .of_eq (h us hl)

def Passes (CX : CXT) (X : Cx) (E : XK) : Prop := ∀ (pins : List (Addr × Obj)) (σ : St) (H : Hp) (s : Shared) (e : Value) (s' : Shared), Inv X pins σ H s → CX X.stack H s E e s' → X.xe e s'

section
variable {X : Cx} {CX : CXT} {k : Nat} {f C : Addr} {fd : FuncData} {ps : List Str} {sp : Sp} {dvs : List V} {ds : List Value} {E : XK} {x m : Str} {p pos apos : Pos} {e o : Expr} {es : List Expr} {ta : TE} {t : TA}

theorem run_fn {pins : List (Addr × Obj)} {σ : St} {H : Hp} {s : Shared} {Q : VK} {us : List Value} {vs : List V} (F : FnOk X.prog X.w X.K X.mg X.base CX k f fd ps sp) (hr : Room k X.A) (hb : Binds X.K fd ps ds) (hd : Vals dvs ds) (hx : Passes CX X E)
    (I : Inv X pins σ H s) (r : Vals vs us) (h : sp (vs ++ dvs) H Q E) : wpAny (model X.prog X.w) X.A (call (.ref f) us) (EP X pins σ Q) X.xe s := by
  have r2 : Vals (vs ++ dvs) (us ++ ds) := r.append hd
  have hl : (us ++ ds).length = ps.length := by rw [← r2.length]; exact F.len _ _ _ _ h
  refine wpAny_call (codeAny_mono (F.run X.A X.stack s H ⟨us, []⟩ (us ++ ds) (vs ++ dvs) Q E hr I.env0 (hb s us I.kIn hl) r2 h) fun r s' hq => ?_)
  cases r with
  | error e => exact hx pins σ H s e s' I hq
  | ok fl =>
    cases fl with
    | ret u => exact I.after hq
    | next => exact False.elim hq
    | brk => exact False.elim hq
    | cont => exact False.elim hq

theorem pe_call (F : FnOk X.prog X.w X.K X.mg X.base CX k f fd ps sp) (hr : Room k X.A) (hg : Gl X x) (hm : X.mg x = some (.ref f)) (hk : PySem.W.keepIn X.K (.ref f) = true) (hb : Binds X.K fd ps ds) (hd : Vals dvs ds) (hx : Passes CX X E)
    (ha : PA X (e :: es) t) (hdb : (x == ("__debug__" : Str)) = false := by decide) (he : starEach (e :: es) X.env = (false, eval e X.env) :: starEach es X.env := by rfl) (hpl : (backTo pos (starEach es X.env)).any (·.1) = false := by rfl) :
    PE X (.Call (.Name x p) (e :: es) [] pos) (tCall sp dvs E t) := by
  intro pins s σ H Q I h
  refine wpAny_Call_Name_kw (ld_glob I hg hm ?_ hdb)
  refine PySem.W.callWith_K (h₀ := X.base) I.ok.mod.kin hk (thn (ha pos pins s σ H _ I h) fun us s1 ⟨vs, H1, I1, r, q⟩ => ⟨I1.kIn, ?_⟩) he hpl
  exact run_fn F hr hb hd hx I1 r q
end

section
variable {X : Cx} {CX : CXT} {k : Nat} {f C : Addr} {fd : FuncData} {ps ks : List Str} {sp : Sp} {E : XK} {x m : Str} {p pos apos kpos : Pos} {e o : Expr} {es : List Expr} {kws : List Keyword} {te ta : TE} {t tk : TA} {nm : Option Str}
variable {g : List Value → List Value → List Value} {gV : List V → List V → List V}
end

structure FnScope (N P : List Str) (sc : Scope) : Prop where
  kind : sc.kind = .function
  co : sc.isCoroutine = false
  gen : sc.isGenerator = false
  nd : N.Nodup
  pre : N.take P.length = P
  par : ∀ x ∈ P, sc.names.lookup x = some .local ∨ sc.names.lookup x = some .cell
  nofree : ∀ y ∈ sc.names, y.2 ≠ .free

theorem bindL_out {kindOf : Str → Option NameKind} {x : Str} : ∀ {binds : List (Str × Value)} {m : Str → Option Value}, (∀ v, (x, v) ∉ binds) → bindL kindOf binds m x = m x
  | [], _, _ => rfl
  | (n, v) :: r, m, h => by
    unfold bindL
    rw [bindL_out fun w hw => h w (List.mem_cons_of_mem _ hw)]
    split
    · have : x ≠ n := by rintro rfl; exact h v List.mem_cons_self
      simp [this]
    · rfl
theorem bindC_out {kindOf : Str → Option NameKind} {x : Str} : ∀ {binds : List (Str × Value)} {m : Str → Option Value}, (∀ v, (x, v) ∉ binds) → bindC kindOf binds m x = m x
  | [], _, _ => rfl
  | (n, v) :: r, m, h => by
    unfold bindC
    rw [bindC_out fun w hw => h w (List.mem_cons_of_mem _ hw)]
    split
    · rfl
    · have : x ≠ n := by rintro rfl; exact h v List.mem_cons_self
      simp [this]
theorem bindL_get {kindOf : Str → Option NameKind} {x : Str} {v : Value} : ∀ {P : List Str} {vs : List Value} {i : Nat} {m : Str → Option Value}, P.Nodup → P[i]? = some x → vs[i]? = some v → kindOf x = some .local →
    bindL kindOf (P.zip vs) m x = some v
  | [], _, _, _, _, h, _, _ => by simp at h
  | _ :: _, [], _, _, _, _, h, _ => by simp at h
  | p :: P, w :: vs, 0, m, nd, h1, h2, hk => by
    simp at h1 h2; subst h1; subst h2
    show bindL kindOf ((p, w) :: P.zip vs) m p = _
    unfold bindL
    rw [bindL_out fun v hv => (List.nodup_cons.mp nd).1 (List.of_mem_zip hv).1, if_pos hk]
    simp
  | p :: P, w :: vs, i + 1, m, nd, h1, h2, hk => by
    show bindL kindOf ((p, w) :: P.zip vs) m x = _
    unfold bindL
    exact bindL_get (i := i) (List.nodup_cons.mp nd).2 (by simpa using h1) (by simpa using h2) hk
theorem bindC_get {kindOf : Str → Option NameKind} {x : Str} {v : Value} : ∀ {P : List Str} {vs : List Value} {i : Nat} {m : Str → Option Value}, P.Nodup → P[i]? = some x → vs[i]? = some v → kindOf x ≠ some .local →
    bindC kindOf (P.zip vs) m x = some v
  | [], _, _, _, _, h, _, _ => by simp at h
  | _ :: _, [], _, _, _, _, h, _ => by simp at h
  | p :: P, w :: vs, 0, m, nd, h1, h2, hk => by
    simp at h1 h2; subst h1; subst h2
    show bindC kindOf ((p, w) :: P.zip vs) m p = _
    unfold bindC
    rw [bindC_out fun v hv => (List.nodup_cons.mp nd).1 (List.of_mem_zip hv).1, if_neg hk]
    simp
  | p :: P, w :: vs, i + 1, m, nd, h1, h2, hk => by
    show bindC kindOf ((p, w) :: P.zip vs) m x = _
    unfold bindC
    exact bindC_get (i := i) (List.nodup_cons.mp nd).2 (by simpa using h1) (by simpa using h2) hk

def start (N : List Str) (vs : List V) : St := vs.map some ++ List.replicate (N.length - vs.length) none

def cxOf (CX : CXT) (P : Program) (w : World) (K : PySem.W.Frag) (mg : Str → Option Value) (base : Heap) (N : List Str) (qual : Str) (scope : Scope) (f : Addr) (cd : Value) (A : Around) (outer : List Env) (s : Shared) (H : Hp) (E : XK) : Cx where
  prog := P
  w := w
  K := K
  mg := mg
  base := base
  A := A.deeper (envOfC qual scope s.heap.objs.size f cd)
  N := N
  s₀ := s
  H₀ := H
  env := envOfC qual scope s.heap.objs.size f cd
  outer := outer
  stack := envOfC qual scope s.heap.objs.size f cd :: outer
  ex := []
  calm := true
  fn := fun _ => true
  pn := []
  xe := fun e s' => wpAny (model P w) (A.deeper (envOfC qual scope s.heap.objs.size f cd)) (leaving (envOfC qual scope s.heap.objs.size f cd) e) (fun _ s'' => CX outer H s E e s'') (fun e' s'' => CX outer H s E e' s'') s'

theorem cell_has {sc : Scope} {n : Nat} {x : Str} (h : sc.names.lookup x = some .cell) : ∃ c, (cellsFrom n sc.names []).lookup x = some c := by
  have q := PySem.W.cellsFrom_some sc.names n [] (.inl h)
  exact Option.isSome_iff_exists.mp q

theorem inv_start {CX : CXT} {P : Program} {w : World} {K : PySem.W.Frag} {mg : Str → Option Value} {base : Heap} {N ps : List Str} {qual : Str} {scope : Scope} {f : Addr} {cd : Value} {A : Around} {outer : List Env} {s s1 : Shared} {H : Hp} {E : XK} {us : List Value} {vs : List V}
    (S : FnScope N ps scope) (hd : A.handled = none) (e0 : Env0 P w K mg base A outer s H) (hl : vs.length = ps.length) (r : Vals vs us)
    (x : InCallC s s.heap.objs.size (bindL (envOfC qual scope s.heap.objs.size f cd).kindOf (ps.zip us) fun _ => none) (cellsFrom (s.heap.objs.size + 1) scope.names []) (bindC (envOfC qual scope s.heap.objs.size f cd).kindOf (ps.zip us) fun _ => none) s1) :
    Inv (cxOf CX P w K mg base N qual scope f cd A outer s H E) [] (start N vs) H s1 := by
  have hpl : ps.length ≤ N.length := by have := congrArg List.length S.pre; rw [List.length_take] at this; omega
  obtain ⟨h1, tk, rfl, hk⟩ := x.done
  have noA : ∀ b : Addr, b ∉ (cxOf CX P w K mg base N qual scope f cd A outer s H E).ex := fun b z => absurd (show b ∈ ([] : List Addr) from z) (by simp)
  refine ⟨⟨e0.mod, S.kind, rfl, rfl, Nat.le_refl _, fun y z c h1 h2 => ?_, fun y hy => ?_, fun y c _ h => ?_, fun _ => hd, Around.frames_deeper e0.frames, .inr ⟨rfl, rfl⟩, fun b z => absurd z (noA b), e0.bs, e0.bsz, fun b _ _ => noA b, fun b z => absurd z (noA b), e0.funs, e0.frf⟩,
    rfl, e0.bare, Un.kept hk, ⟨_, x.toInCall.ns, fun i y v h1 h2 h3 => ?_⟩, fun y c h => ⟨_, x.cell y c h⟩, e0.hok.fresh (Nat.le_refl _), fun y c h => ?_, fun p hp => absurd (show p ∈ ([] : List (Addr × Obj)) from hp) (by simp), e0.hok.kept hk, ?_⟩
  · exact name_of_addr x.apart (PySem.mem_of_lookup h1) (PySem.mem_of_lookup h2)
  · have hy : scope.names.lookup y = some .cell ∨ scope.names.lookup y = some .free := hy
    rcases hy with hy | hy
    · exact cell_has hy
    · exact absurd rfl (S.nofree _ (PySem.mem_of_lookup hy))
  · exact Nat.le_of_lt (x.above y c (PySem.mem_of_lookup h))
  · have hi : i < vs.length := by
      unfold start at h2
      by_cases hi : i < vs.length
      · exact hi
      · rw [List.getElem?_append_right (by simpa using hi)] at h2
        rw [List.getElem?_replicate] at h2
        split at h2 <;> cases h2
    have ha : vs[i]? = some v := by
      unfold start at h2
      rw [List.getElem?_append_left (by simpa using hi), List.getElem?_map] at h2
      cases e : vs[i]? with
      | none => rw [e] at h2; cases h2
      | some a => rw [e] at h2; cases h2; rfl
    obtain ⟨u, hu, rv⟩ := r.get ha
    have hp : ps[i]? = some y := by
      rw [← S.pre, List.getElem?_take_of_lt (by omega)]; exact h1
    have ndP : ps.Nodup := by rw [← S.pre]; exact S.nd.sublist (List.take_sublist _ _)
    refine ⟨u, rv, ?_⟩
    rcases S.par y (List.mem_of_getElem? hp) with k | k
    · exact .inl ⟨k, bindL_get ndP hp hu k⟩
    · obtain ⟨c, e⟩ := cell_has (n := s.heap.objs.size + 1) k
      refine .inr ⟨.inl k, c, e, ?_⟩
      have q := x.cell y c e
      rw [bindC_get ndP hp hu (by show scope.names.lookup y ≠ _; rw [k]; decide)] at q
      exact q
  · exact e0.hok.fresh (Nat.le_of_lt (x.above y c (PySem.mem_of_lookup h)))
  · unfold start
    show _ = N.length
    rw [List.length_append, List.length_map, List.length_replicate]
    omega

theorem fn_of {CX : CXT} {P : Program} {w : World} {K : PySem.W.Frag} {mg : Str → Option Value} {base : Heap} {k : Nat} {f : Addr} {name qual : Str} {params : Arguments} {body : List Stmt} {scope : Scope} {dV kV doc pm cdv ct oc : Value} {an od : Option Addr}
    {osl : Array (Option Value)} {N ps : List Str} {sp : Sp} (lk : K.lookup f = some ⟨oc, od, .func (PySem.W.fnOf name qual params body scope dV kV doc pm an cdv ct), osl⟩) (hcd : PySem.W.codeIn K cdv qual = true) (S : FnScope N ps scope)
    (len : ∀ vs H Q E, sp vs H Q E → vs.length = ps.length)
    (hbody : ∀ (A : Around) (outer : List Env) (s : Shared) (H : Hp) (vs : List V) (Q : VK) (E : XK), Room k (A.deeper (envOfC qual scope s.heap.objs.size f cdv)) → sp vs H Q E →
      ∃ t, PSs (cxOf CX P w K mg base N qual scope f cdv A outer s H E) body t ∧ t { nx := fun _ H' => Q .non H', rt := Q } (start N vs) H) :
    FnOk P w K mg base CX (k + 1) f (PySem.W.fnOf name qual params body scope dV kV doc pm an cdv ct) ps sp := by
  refine ⟨len, fun A outer s H args us vs Q E hr e0 hb r hsp => ?_⟩
  have hl := len _ _ _ _ hsp
  have KX : K.In s.heap := e0.mod.kin.keeps fun b o e => (e0.bs b o e).1
  have lim : s.heap.NoLimit := e0.mod.nolimit.keeps fun b o e => (e0.bs b o e).1
  have hkind : ∀ y ∈ ps.zip us, scope.names.lookup y.1 = some .local ∨ (scope.names.lookup y.1 = some .cell ∧ ((cellsFrom (s.heap.objs.size + 1) scope.names []).lookup y.1).isSome = true) := fun ⟨n, v⟩ hy => by
    rcases S.par n (List.of_mem_zip hy).1 with q | q
    · exact .inl q
    · exact .inr ⟨q, PySem.W.cellsFrom_some _ _ _ (.inl q)⟩
  refine codeAny_call_function hr.depth (KX _ _ lk) rfl S.co S.gen rfl (PySem.W.codeRec_of KX hcd) (hb _ _ _ _ ?_)
  refine wpAny_newFunctionEnv_cells S.kind hkind fun env he s1 x => ?_
  subst he
  refine ⟨lim.keeps x.toInCall.keep, codeAny_func ?_⟩
  obtain ⟨t, ht, hq⟩ := hbody A outer s H vs Q E (hr.deeper _) hsp
  have I : Inv (cxOf CX P w K mg base N qual scope f cdv A outer s H E) [] (start N vs) H s1 := inv_start S hr.hd e0 hl r x
  refine wpAny_mono (ht [] s1 (start N vs) H _ I hq) (fun fl s' hs => ?_) fun e s' hs => hs
  have fin : ∀ {σ' : St} {H' : Hp} {v : V} {u : Value}, Inv (cxOf CX P w K mg base N qual scope f cdv A outer s H E) [] σ' H' s' → RelV v u → Q v H' → CE outer P w H s Q u s' :=
    fun {σ' H' v u} J rv q => ⟨v, H', J.os, J.bare, J.base, J.hok, rv, q⟩
  cases fl with
  | ret u =>
    obtain ⟨v, σ', H', J, rv, q⟩ := hs
    exact fin J rv q
  | next =>
    obtain ⟨σ', H', J, q⟩ := hs
    exact fin (v := V.non) (u := Value.none) J rfl q
  | brk =>
    obtain ⟨_, _, _, q⟩ := hs
    exact False.elim q
  | cont =>
    obtain ⟨_, _, _, q⟩ := hs
    exact False.elim q
end L2

namespace L2
open PySem PySem.Spec PyProof.Rows
section
variable {X : Cx} {x : Str} {p pos : Pos} {e : Expr} {es : List Expr} {t : TA} {id T : String} {r : List V → Hp → VK → Prop}

def tCB (r : List V → Hp → VK → Prop) (t : TA) : TE := fun σ H Q => t σ H fun vs H1 => r vs H1 Q
theorem pe_callB (hc : CallR X (.builtin id) r) (hg : Gl X x) (hm : X.mg x = none) (hv : bootBuiltins x = some (.builtin id)) (ha : PA X (e :: es) t) (hn : x ≠ "__name__" := by decide) (hdb : (x == ("__debug__" : Str)) = false := by decide)
    (he : starEach (e :: es) X.env = (false, eval e X.env) :: starEach es X.env := by rfl) (hpl : (backTo pos (starEach es X.env)).any (·.1) = false := by rfl) : PE X (.Call (.Name x p) (e :: es) [] pos) (tCB r t) := by
  intro pins s σ H Q I h
  refine wpAny_Call_Name_kw (ld_blt I hg hm hv ?_ hn hdb)
  exact PyProof.Rows.callWith_builtin1 (thn (ha pos pins s σ H _ I h) fun us s1 ⟨vs, H1, I1, r1, q1⟩ => hc pins s1 σ H1 vs us Q I1 r1 q1) he hpl
theorem pe_callTy (hc : CallR X (.type T) r) (hg : Gl X x) (hm : X.mg x = none) (hv : bootBuiltins x = some (.type T)) (ha : PA X (e :: es) t) (hn : x ≠ "__name__" := by decide) (hdb : (x == ("__debug__" : Str)) = false := by decide)
    (he : starEach (e :: es) X.env = (false, eval e X.env) :: starEach es X.env := by rfl) (hpl : (backTo pos (starEach es X.env)).any (·.1) = false := by rfl) : PE X (.Call (.Name x p) (e :: es) [] pos) (tCB r t) := by
  intro pins s σ H Q I h
  refine wpAny_Call_Name_kw (ld_blt I hg hm hv ?_ hn hdb)
  exact PyProof.Rows.callWith_type1 (thn (ha pos pins s σ H _ I h) fun us s1 ⟨vs, H1, I1, r1, q1⟩ => hc pins s1 σ H1 vs us Q I1 r1 q1) he hpl
end
end L2

namespace HT
open PySem PyProof.Rows

section
open PySem.SeqAt
open PySem.AutoSeq1 (wpAny_loadPart')
open PySem.MeetsSeq PySem.MeetsSeq2 PySem.MeetsSeq3

end

section
variable {prog : Program} {w : World} {A : Around} {E : Value → Shared → Prop} {s : Shared}

def sIx (n d : Nat) : Option Int → Nat
  | none => d
  | some v => if v < 0 then (v + (n : Int)).toNat else min v.toNat n
theorem sIx_none (n d : Nat) : sIx n d none = d := rfl
theorem sIx_nat (n d k : Nat) : sIx n d (some (k : Int)) = min k n := by
  show (if (k : Int) < 0 then ((k : Int) + (n : Int)).toNat else min (k : Int).toNat n) = min k n
  rw [if_neg (by omega), Int.toNat_natCast]
end
end HT

namespace L2
open PySem PySem.Spec PyProof.Rows

abbrev TO := St → Hp → (Option Int → Hp → Prop) → Prop
def PO (X : Cx) (e : Option Expr) (t : TO) : Prop :=
  ∀ (pins : List (Addr × Obj)) (s : Shared) (σ : St) (H : Hp) (Q : Option Int → Hp → Prop), Inv X pins σ H s → t σ H Q →
    wpAny (model X.prog X.w) X.A (evalPart e X.env) (fun u s' => ∃ o H', Inv X pins σ H' s' ∧ IsPart u o ∧ Q o H') X.xe s
def tNoPart : TO := fun _ H Q => Q none H
def tPart (t : TE) : TO := fun σ H Q => t σ H fun x H1 => ∃ i, x = .int i ∧ Q (some i) H1

theorem intsAre_of {ns : List Int} : ∀ {us : List Value}, Vals (ns.map V.int) us → IntsAre us ns := by
  induction ns with
  | nil => intro us r; rw [List.map_nil] at r; cases r; exact .nil
  | cons n ns ih =>
    intro us r
    rw [List.map_cons] at r
    cases r with
    | cons r1 r2 =>
      obtain ⟨t, e⟩ := r1
      subst e
      exact .cons n t (ih r2)

section
variable {X : Cx} {e : Expr} {te : TE} {lo hi : Option Expr} {tl th : TO} {pos p2 : Pos}

theorem po_none : PO X none tNoPart := by
  intro pins s σ H Q I h
  rw [evalPart_none]
  exact wpAny_pure ⟨none, H, I, .none, h⟩
theorem po_some (h : PE X e te) : PO X (some e) (tPart te) := by
  intro pins s σ H Q I hw
  rw [evalPart_some]
  refine thn (h pins s σ H _ I hw) fun u s1 ⟨x, H1, I1, r1, q1⟩ => ?_
  obtain ⟨i, rfl, q⟩ := q1
  obtain ⟨t, rfl⟩ := r1
  exact ⟨some i, H1, I1, .int i t, q⟩

def SlR (X : Cx) (r : V → Option Int → Option Int → Hp → VK → Prop) : Prop :=
  ∀ (pins : List (Addr × Obj)) (s : Shared) (σ : St) (H : Hp) (x : V) (v vl vu : Value) (lo hi : Option Int) (sl : Addr) (Q : VK), Inv X pins σ H s → RelV x v → s.heap.IsSliceOf sl vl vu .none → IsPart vl lo → IsPart vu hi → r x lo hi H Q →
    ∃ T id, typeLookup (.type T) "__getitem__" = pure (some (.builtin id)) ∧ s.TypeIs v T ∧ wpAny (model X.prog X.w) X.A (getItem v (.ref sl)) (EP X pins σ Q) X.xe s
def tSl (r : V → Option Int → Option Int → Hp → VK → Prop) (te : TE) (tl th : TO) : TE := fun σ H Q => te σ H fun x H1 => tl σ H1 fun l H2 => th σ H2 fun u H3 => r x l u H3 Q
theorem pe_slice {r : V → Option Int → Option Int → Hp → VK → Prop} (hr : SlR X r) (he : PE X e te) (hl : PO X lo tl) (hu : PO X hi th) : PE X (.Subscript e (.Slice lo hi none p2) pos) (tSl r te tl th) := by
  intro pins s σ H Q I h
  refine Subscript_ (thn (he pins s σ H _ I h) fun v s1 ⟨x, H1, I1, r1, q1⟩ => ?_)
  refine wpAny_Slice (thn (hl pins s1 σ H1 _ I1 q1) fun vl s2 ⟨l, H2, I2, pl, q2⟩ => thn (hu pins s2 σ H2 _ I2 q2) fun vu s3 ⟨u, H3, I3, pu, q3⟩ => ?_)
  rw [evalPart_none]
  refine wpAny_pure ?_
  have I4 : Inv X pins σ H3 { s3 with heap := s3.heap.push { cls := .type "slice", data := .fields #[vl, vu, .none] } } := I3.kept (t' := s3.toks) fun b ob q => Heap.get?_push_of_some _ q
  obtain ⟨T, id, hT, ht, hg⟩ := hr pins { s3 with heap := s3.heap.push { cls := .type "slice", data := .fields #[vl, vu, .none] } } σ H3 x v vl vu l u s3.heap.objs.size Q I4 r1 (Heap.IsSliceOf.new ..) pl pu q3
  show wpAny (model X.prog X.w) X.A (subscriptTail e (.Slice lo hi none p2) v (.ref s3.heap.objs.size)) (EP X pins σ Q) X.xe { s3 with heap := s3.heap.push { cls := .type "slice", data := .fields #[vl, vu, .none] } }
  exact tail_any (ops := [.ref s3.heap.objs.size, v]) ht hT hg (by with_unfolding_all rfl)

def cutV (xs : List V) (lo hi : Option Int) : List V := (xs.drop (HT.sIx xs.length 0 lo)).take (HT.sIx xs.length xs.length hi - HT.sIx xs.length 0 lo)
theorem cutV_length (xs : List V) (lo hi : Option Int) : (cutV xs lo hi).length ≤ xs.length := by
  unfold cutV
  rw [List.length_take, List.length_drop]
  omega
end
end L2

namespace L2
open PySem PySem.Spec PyProof.Rows

def ixN (n : Nat) (i : Int) : Option Nat := if 0 ≤ i then (if i < n then some i.toNat else none) else if -(n : Int) ≤ i then some (i + n).toNat else none
def atI {α : Type} (xs : List α) (i : Int) : Option α := (ixN xs.length i).bind fun j => xs[j]?
theorem ixN_seq {n : Nat} {i : Int} {j : Nat} (h : ixN n i = some j) : seqIndex? i n = some j ∧ j < n ∧ -(n : Int) ≤ i ∧ i < n := by
  unfold ixN at h
  by_cases h0 : 0 ≤ i
  · rw [if_pos h0] at h
    by_cases h1 : i < n
    · rw [if_pos h1] at h
      have e : i.toNat = j := Option.some.inj h
      exact ⟨by rw [seqIndex_of h0 h1, e], by omega, by omega, h1⟩
    · rw [if_neg h1] at h; cases h
  · rw [if_neg h0] at h
    by_cases h1 : -(n : Int) ≤ i
    · rw [if_pos h1] at h
      have e : (i + n).toNat = j := Option.some.inj h
      exact ⟨by rw [seqIndex_neg (by omega) h1, e], by omega, h1, by omega⟩
    · rw [if_neg h1] at h; cases h
theorem atI_get {α : Type} {xs : List α} {i : Int} {v : α} (h : atI xs i = some v) : ∃ j, seqIndex? i xs.length = some j ∧ xs[j]? = some v ∧ j < xs.length ∧ -(xs.length : Int) ≤ i ∧ i < xs.length := by
  unfold atI at h
  cases e : ixN xs.length i with
  | none => rw [e] at h; cases h
  | some j =>
    rw [e] at h
    obtain ⟨h1, h2, h3, h4⟩ := ixN_seq e
    exact ⟨j, h1, h, h2, h3, h4⟩
theorem atI_nat {α : Type} {xs : List α} {j : Nat} {v : α} (h : xs[j]? = some v) : atI xs (j : Int) = some v := by
  have hj : j < xs.length := (List.getElem?_eq_some_iff.mp h).1
  have e : ixN xs.length (j : Int) = some j := by
    unfold ixN
    rw [if_pos (by omega), if_pos (by omega)]; simp
  unfold atI; rw [e]; exact h
def PlainIx (b : Expr) : Prop := ∀ o i, subscripted b false o i = operate [o, i] (getItem o i)
def IxR (X : Cx) (r : R2) : Prop :=
  ∀ (value slice : Expr) (pins : List (Addr × Obj)) (s : Shared) (σ : St) (H : Hp) (x y : V) (v u : Value) (Q : VK), Inv X pins σ H s → RelV x v → RelV y u → r x y H Q →
    subscripted slice false v u = operate [v, u] (getItem v u) → wpAny (model X.prog X.w) X.A (subscriptTail value slice v u) (EP X pins σ Q) X.xe s
def MtR (X : Cx) (id : String) (r : V → List V → Hp → VK → Prop) : Prop :=
  ∀ (pins : List (Addr × Obj)) (s : Shared) (σ : St) (H : Hp) (x : V) (xs : List V) (v : Value) (us : List Value) (Q : VK), Inv X pins σ H s → RelV x v → Vals xs us → r x xs H Q →
    wpAny (model X.prog X.w) X.A (call (.builtin id) (v :: us)) (EP X pins σ Q) X.xe s
section
variable {X : Cx} {a b : Expr} {ta tb : TE} {pos : Pos}
theorem pe_ix {r : R2} (hr : IxR X r) (ha : PE X a ta) (hb : PE X b tb) (hs : PlainIx b) : PE X (.Subscript a b pos) (tOp r ta tb) := by
  intro pins s σ H Q I h
  exact Subscript_ (binT ha hb I h fun v u s2 x y H2 I2 rx ry q => hr a b pins s2 σ H2 x y v u Q I2 rx ry q (hs _ _))

def rIxL (K : PySem.W.Frag) : R2 := fun x y H Q => ∃ p xs i v, x = .ref p ∧ y = .int i ∧ SqL K H p xs ∧ atI xs i = some v ∧ Q v H
def rIxT (K : PySem.W.Frag) : R2 := fun x y H Q => ∃ p xs i v, x = .ref p ∧ y = .int i ∧ SqT K H p xs ∧ atI xs i = some v ∧ Q v H
theorem ix_list : IxR X (rIxL X.K) := by
  intro value slice pins s σ H x y v u Q I rx ry h hs
  obtain ⟨p, xs, i, z, rfl, rfl, hq, he, q⟩ := h
  cases rx
  obtain ⟨t, rfl⟩ := ry
  obtain ⟨its, r, pl, hz⟩ := I.list hq
  obtain ⟨j, h1, h2, h3, h4, h5⟩ := atI_get he
  obtain ⟨w, ew, rw'⟩ := r.get h2
  have hl := r.length
  have hn := line63
  have fin : EP X pins σ Q w s := ⟨z, H, I, rw', q⟩
  by_cases h0 : 0 ≤ i
  · have hj : i.toNat = j := by
      rw [seqIndex_of h0 h5] at h1
      exact Option.some.inj h1
    exact item_listR pl.isList h0 (by omega) (by rw [hj]; simpa using ew) fin hs
  · have hj : (i + (its.toArray.size : Int)).toNat = j := by
      rw [seqIndex_neg (by omega) h4] at h1
      rw [List.size_toArray, ← hl]
      exact Option.some.inj h1
    exact subscriptTail_builtinR (x := w) pl.isList.typeIs slot_list_getitem.lookup
      (wpAny_getItem_list_neg (Q := fun r s' => r = w ∧ EP X pins σ Q r s') pl.isList (by omega) (by rw [List.size_toArray] <;> omega) (by omega) (by rw [hj]; simpa using ew) ⟨rfl, fin⟩) hs
theorem ix_tup : IxR X (rIxT X.K) := by
  intro value slice pins s σ H x y v u Q I rx ry h hs
  obtain ⟨p, xs, i, z, rfl, rfl, hq, he, q⟩ := h
  cases rx
  obtain ⟨t, rfl⟩ := ry
  obtain ⟨its, r, pl, hz⟩ := I.tuple hq
  obtain ⟨j, h1, h2, h3, h4, h5⟩ := atI_get he
  obtain ⟨w, ew, rw'⟩ := r.get h2
  have hl := r.length
  have hn := line63
  have fin : EP X pins σ Q w s := ⟨z, H, I, rw', q⟩
  exact subscriptTail_builtinR (x := w) pl.typeIs slot_tuple_getitem.lookup
    (getItem_tuple (j := j) (Q := fun r s' => r = w ∧ EP X pins σ Q r s') pl (by omega) (by omega) (by rw [List.size_toArray, ← hl]; exact h1) (by simpa using ew) ⟨rfl, fin⟩) hs
theorem slice_bounds (lo hi : Option Int) (n : Nat) : (sliceBounds lo hi none n).1 = ((HT.sIx n 0 lo : Nat) : Int) ∧ (sliceBounds lo hi none n).2.1 = ((HT.sIx n n hi : Nat) : Int) ∧ (sliceBounds lo hi none n).2.2 = 1 := by
  refine ⟨?_, ?_, rfl⟩
  · cases lo with
    | none => simp [sliceBounds, HT.sIx]
    | some i =>
      simp only [sliceBounds, HT.sIx, Option.getD_none, show (1 : Int) > 0 by decide, if_true]
      by_cases h : i < 0
      · simp only [h, if_true] <;> omega
      · simp only [h, if_false] <;> omega
  · cases hi with
    | none => simp [sliceBounds, HT.sIx]
    | some i =>
      simp only [sliceBounds, HT.sIx, Option.getD_none, show (1 : Int) > 0 by decide, if_true]
      by_cases h : i < 0
      · simp only [h, if_true] <;> omega
      · simp only [h, if_false] <;> omega
theorem slicePick_cut (its : List Value) (lo hi : Option Int) : slicePick its.toArray lo hi none = ((its.drop (HT.sIx its.length 0 lo)).take (HT.sIx its.length its.length hi - HT.sIx its.length 0 lo)).toArray := by
  obtain ⟨h1, h2, h3⟩ := slice_bounds lo hi its.toArray.size
  unfold slicePick
  rw [h1, h2, h3]
  simp only [sliceRange_one, pick_run, List.size_toArray] <;> rfl
def rSlL (K : PySem.W.Frag) : V → Option Int → Option Int → Hp → VK → Prop := fun x lo hi H Q => ∃ a xs, x = .ref a ∧ SqL K H a xs ∧ ∀ p, H p = none → Q (.ref p) (upd H p (.lst (cutV xs lo hi)))
theorem sl_list : SlR X (rSlL X.K) := by
  intro pins s σ H x v vl vu lo hi sl Q I rx hs pl pu h
  obtain ⟨a, xs, rfl, hx, q⟩ := h
  cases rx
  obtain ⟨its, r, ht, hz⟩ := I.list hx
  have hlen := r.length
  refine ⟨"list", _, slot_list_getitem.lookup, ht.isList.typeIs, ?_⟩
  refine wpAny_getItem_list_slice ht.isList hs pl pu .none (by simp) ?_ (by rw [List.size_toArray] <;> omega)
  rw [slicePick_cut, ← hlen]
  refine ⟨.ref s.heap.objs.size, _, I.laid (t' := s.toks) (o := .lst (cutV xs lo hi)) (fun b ob q => Heap.get?_push_of_some _ q) (Nat.le_refl _) ?_, rfl, q _ (I.hok.fresh (Nat.le_refl _))⟩
  exact ⟨Nat.le_trans (cutV_length xs lo hi) hz, _, 0, (r.drop (HT.sIx xs.length 0 lo)).take (HT.sIx xs.length xs.length hi - HT.sIx xs.length 0 lo), Heap.get?_push_size _ rfl⟩

def flatV : V → Bool
  | .non => true
  | .bl _ => true
  | .int _ => true
  | .str _ => true
  | _ => false
def eqV : V → V → Bool
  | .non, .non => true
  | .bl a, .bl b => a == b
  | .bl a, .int b => (if a then 1 else 0) == b
  | .int a, .bl b => a == (if b then 1 else 0)
  | .int a, .int b => a == b
  | .str a, .str b => a == b
  | _, _ => false
theorem eqAt_V {A : Around} {s : Shared} {y x : V} {u v : Value} (ry : RelV y u) (rx : RelV x v) (fy : flatV y = true) (fx : flatV x = true) : SeqAt.EqAt A s u v (eqV y x) := by
  cases y with
  | non =>
    cases ry
    cases x with
    | non => cases rx; exact SeqAt.EqAt.same _
    | bl b => cases rx; exact SeqAt.EqAt.none_bool b
    | int b => obtain ⟨t, rfl⟩ := rx; exact SeqAt.EqAt.none_int b t
    | str b => obtain ⟨t, rfl⟩ := rx; exact SeqAt.EqAt.none_str b t
    | _ => exact absurd (show false = true from fx) Bool.false_ne_true
  | bl a =>
    cases ry
    cases x with
    | non => cases rx; exact SeqAt.EqAt.bool_none a
    | bl b => cases rx; exact SeqAt.EqAt.bool_bool a b
    | int b => obtain ⟨t, rfl⟩ := rx; exact SeqAt.EqAt.bool_int a b t
    | str b => obtain ⟨t, rfl⟩ := rx; exact SeqAt.EqAt.bool_str a b t
    | _ => exact absurd (show false = true from fx) Bool.false_ne_true
  | int a =>
    obtain ⟨t', rfl⟩ := ry
    cases x with
    | non => cases rx; exact SeqAt.EqAt.int_none a t'
    | bl b => cases rx; exact SeqAt.EqAt.int_bool a t' b
    | int b => obtain ⟨t, rfl⟩ := rx; exact SeqAt.EqAt.int_int a t' b t
    | str b => obtain ⟨t, rfl⟩ := rx; exact SeqAt.EqAt.int_str a t' b t
    | _ => exact absurd (show false = true from fx) Bool.false_ne_true
  | str a =>
    obtain ⟨t', rfl⟩ := ry
    cases x with
    | non => cases rx; exact SeqAt.EqAt.str_none a t'
    | bl b => cases rx; exact SeqAt.EqAt.str_bool a t' b
    | int b => obtain ⟨t, rfl⟩ := rx; exact SeqAt.EqAt.str_int a t' b t
    | str b => obtain ⟨t, rfl⟩ := rx; exact SeqAt.EqAt.str_str a t' b t
    | _ => exact absurd (show false = true from fx) Bool.false_ne_true
  | _ => exact absurd (show false = true from fy) Bool.false_ne_true
def eqU (x : V) (u : Value) : Bool := match u with
  | .none => eqV .non x
  | .bool b => eqV (.bl b) x
  | .int i _ => eqV (.int i) x
  | .str z _ => eqV (.str z) x
  | _ => false
theorem eqU_of {x y : V} {u : Value} (r : RelV y u) (f : flatV y = true) : eqU x u = eqV y x := by
  cases y with
  | non => cases r; rfl
  | bl b => cases r; rfl
  | int i => obtain ⟨t, rfl⟩ := r; rfl
  | str z => obtain ⟨t, rfl⟩ := r; rfl
  | _ => exact absurd (show false = true from f) Bool.false_ne_true
theorem any_eqU {x : V} : ∀ {xs : List V} {us : List Value}, Vals xs us → xs.all flatV = true → us.any (eqU x) = xs.any fun y => eqV y x
  | _, _, .nil, _ => rfl
  | y :: xs, u :: us, .cons r t, f => by
    rw [List.all_cons, Bool.and_eq_true] at f
    rw [List.any_cons, List.any_cons, eqU_of r f.1, any_eqU t f.2]
theorem mem_eqAt {A : Around} {s : Shared} {x : V} {v : Value} (rx : RelV x v) (fx : flatV x = true) : ∀ {xs : List V} {us : List Value}, Vals xs us → xs.all flatV = true → ∀ u ∈ us, SeqAt.EqAt A s u v (eqU x u)
  | _, _, .nil, _ => fun u hu => by cases hu
  | y :: xs, u :: us, .cons r t, f => fun u' hu => by
    rw [List.all_cons, Bool.and_eq_true] at f
    rcases List.mem_cons.mp hu with rfl | hu
    · rw [eqU_of r f.1]; exact eqAt_V r rx f.1 fx
    · exact mem_eqAt rx fx t f.2 u' hu
def inV (x : V) (xs : List V) : Bool := xs.any fun y => eqV y x
def rIn (K : PySem.W.Frag) (neg : Bool) : R2 := fun x y H Q => ∃ p xs, y = .ref p ∧ (SqL K H p xs ∨ SqT K H p xs) ∧ flatV x = true ∧ xs.all flatV = true ∧ Q (.bl (if neg then !inV x xs else inV x xs)) H
theorem op_in_seq : OpR X (compareOp .In) (rIn X.K false) := by
  intro pins s σ H x y v u Q I rx ry h
  obtain ⟨p, xs, rfl, hq, fx, fs, q⟩ := h
  cases ry
  rcases hq with hq | hq
  · obtain ⟨its, r, pl, hz⟩ := I.list hq
    refine SeqAt.in_listAt (eqU x) pl.isList (fun w hw => mem_eqAt rx fx r fs w (by simpa using hw)) ⟨.bl _, H, I, rfl, ?_⟩
    rw [show its.toArray.any (eqU x) = its.any (eqU x) by simp, any_eqU r fs]
    exact q
  · obtain ⟨its, r, pl, hz⟩ := I.tuple hq
    refine SeqAt.in_tupleAt (eqU x) pl (fun w hw => mem_eqAt rx fx r fs w (by simpa using hw)) ⟨.bl _, H, I, rfl, ?_⟩
    rw [show its.toArray.any (eqU x) = its.any (eqU x) by simp, any_eqU r fs]
    exact q
theorem call_len_seq : CallR X (.builtin "len") (fun xs H Q => ∃ p ys, xs = [.ref p] ∧ (SqL X.K H p ys ∨ SqT X.K H p ys) ∧ Q (.int ys.length) H) := by
  intro pins s σ H xs us Q I r h
  obtain ⟨p, ys, rfl, hq, q⟩ := h
  obtain ⟨u, rfl, rx⟩ := vals1 r
  cases rx
  have hn := line63
  rcases hq with hq | hq
  · obtain ⟨its, r', pl, hz⟩ := I.list hq
    have hlen := r'.length
    exact Calls.call_len_list pl.isList (by simp only [List.size_toArray] <;> omega) ⟨.int ys.length, H, I.tok _, ⟨s.toks + 1, by rw [List.size_toArray, hlen]⟩, q⟩
  · obtain ⟨its, r', pl, hz⟩ := I.tuple hq
    have hlen := r'.length
    exact len_tuple pl (by simp only [List.size_toArray] <;> omega) ⟨.int ys.length, H, I.tok _, ⟨s.toks + 1, by rw [List.size_toArray, hlen]⟩, q⟩
theorem call_list_of : CallR X (.type "list") (fun xs H Q => ∃ p ys, xs = [.ref p] ∧ (SqL X.K H p ys ∨ SqT X.K H p ys) ∧ ∀ l, H l = none → Q (.ref l) (upd H l (.lst ys))) := by
  intro pins s σ H xs us Q I r h
  obtain ⟨p, ys, rfl, hq, q⟩ := h
  obtain ⟨u, rfl, rx⟩ := vals1 r
  cases rx
  have fin : ∀ (its : List Value), Vals ys its → ys.length ≤ sizeLine → ∀ (h' : Heap) (c' : Nat), (∀ b o', s.heap.get? b = some o' → h'.get? b = some o') →
      h'.get? s.heap.objs.size = some { cls := .type "list", dict := none, data := .seq its.toArray c', slots := #[] } → EP X pins σ Q (.ref s.heap.objs.size) { s with heap := h' } := fun its r' hz h' c' kp e =>
    ⟨.ref s.heap.objs.size, _, I.laid (t' := s.toks) kp (Nat.le_refl _) (show ObjOk X.prog X.w _ h' _ (.lst ys) from ⟨hz, its, c', r', e⟩), rfl, q _ (I.hok.fresh (Nat.le_refl _))⟩
  rcases hq with hq | hq
  · obtain ⟨its, r', pl, hz⟩ := I.list hq
    have hlen := r'.length
    obtain ⟨o, ho, hc, n, hd⟩ := pl.isList
    exact call_list_seq p (.inl rfl) ho hc hd (fun h' c' kp e => fin its r' hz h' c' kp e) (by simp only [List.size_toArray] <;> omega)
  · obtain ⟨its, r', pl, hz⟩ := I.tuple hq
    have hlen := r'.length
    obtain ⟨o, ho, hc, n, hd⟩ := pl
    exact call_list_seq p (.inr rfl) ho hc hd (fun h' c' kp e => fin its r' hz h' c' kp e) (by simp only [List.size_toArray] <;> omega)
def tyV (K : PySem.W.Frag) (T : String) (x : V) (H : Hp) : Prop := match x with
  | .str _ => T = "str"
  | .int _ => T = "int"
  | .ref p => (T = "list" ∧ ∃ xs, SqL K H p xs) ∨ (T = "tuple" ∧ ∃ o, K.lookup p = some o ∧ o.cls = .type "tuple" ∧ o.dict = none) ∨
      (T = "dict" ∧ ((∃ kvs, H p = some (.dK kvs)) ∨ ∃ kvs, H p = some (.dT kvs))) ∨ (T = "set" ∧ ∃ S n, H p = some (.set S n))
  | _ => False
theorem tyV_is {pins : List (Addr × Obj)} {σ : St} {H : Hp} {s : Shared} {T : String} {x : V} {v : Value} (I : Inv X pins σ H s) (r : RelV x v) (ty : tyV X.K T x H) :
    s.TypeIs v T ∧ ∀ a, v = .ref a → ∃ ob, s.heap.get? a = some ob ∧ ob.dict = none := by
  cases x with
  | str z =>
    obtain ⟨t, rfl⟩ := r
    cases (show T = "str" from ty)
    exact ⟨typeIs_str s z t, fun _ e => nomatch e⟩
  | int i =>
    obtain ⟨t, rfl⟩ := r
    cases (show T = "int" from ty)
    exact ⟨typeIs_int s i t, fun _ e => nomatch e⟩
  | ref p =>
    cases r
    rcases ty with ⟨rfl, xs, hq⟩ | ⟨rfl, o, hk, hc, hd⟩ | ⟨rfl, hk⟩ | ⟨rfl, S, n, hk⟩
    · obtain ⟨its, _, pl, _⟩ := I.list hq
      refine ⟨pl.isList.typeIs, fun a e => ?_⟩
      cases e
      obtain ⟨o, n, e, c, hd, _⟩ := pl
      exact ⟨o, e, hd⟩
    · refine ⟨⟨o, I.kIn p o hk, hc⟩, fun a e => ?_⟩
      cases e
      exact ⟨o, I.kIn _ o hk, hd⟩
    · have z : ∃ o, s.heap.get? p = some o ∧ o.ExactDict := by
        rcases hk with ⟨kvs, hk⟩ | ⟨kvs, hk⟩
        · obtain ⟨_, _, _, _, o, _, _, e, ex, _⟩ := I.hok p _ hk
          exact ⟨o, e, ex⟩
        · obtain ⟨_, _, _, _, o, _, _, e, ex, _⟩ := I.hok p _ hk
          exact ⟨o, e, ex⟩
      obtain ⟨o, e, ex⟩ := z
      refine ⟨⟨o, e, ex.1⟩, fun a e2 => ?_⟩
      cases e2
      exact ⟨o, e, ex.2.1⟩
    · obtain ⟨o, _, _, _, e, ex, _⟩ := I.hok p _ hk
      refine ⟨⟨o, e, ex.1⟩, fun a e2 => ?_⟩
      cases e2
      exact ⟨o, e, ex.2.1⟩
  | _ => exact False.elim ty
def tBM (K : PySem.W.Frag) (T : String) (r : V → List V → Hp → VK → Prop) (to : TE) (t : TA) : TE := fun σ H Q => to σ H fun x H1 => tyV K T x H1 ∧ t σ H1 fun xs H2 => r x xs H2 Q
variable {o e : Expr} {es : List Expr} {to : TE} {t : TA} {name : Str} {apos cpos : Pos} {T id : String} {r : V → List V → Hp → VK → Prop}
theorem pe_bm (pa : PlainAttrs T) (slot : Slot T name id) (hty : typeOf (.builtin id) = pure (.type "method_descriptor")) (hm : MtR X id r) (ho : PE X o to) (ha : PA X (e :: es) t)
    (hbase : attributeBase o name X.env (eval o X.env) = eval o X.env := by rfl)
    (hfew : ((backTo cpos (starEach (e :: es) X.env)).all (fun x => !x.1) && (backToKw cpos (keywordEach [] X.env)).all (fun x => x.1.isSome)
      && decide ((e :: es).length + ([] : List Keyword).length + (if ([] : List Keyword).isEmpty then 0 else 1) < 30)) = true := by rfl)
    (hline : (apos.endLine == cpos.line) = true := by rfl) (hs : starEach (e :: es) X.env = (false, eval e X.env) :: starEach es X.env := by rfl) (hplain : (backTo cpos (starEach es X.env)).any (·.1) = false := by rfl) :
    PE X (.Call (.Attribute o name apos) (e :: es) [] cpos) (tBM X.K T r to t) := by
  intro pins s σ H Q I h
  refine wpAny_Call_method_late hbase hfew hline rfl (thn (ho pins s σ H _ I h) fun v s1 ⟨x, H1, I1, r1, ty, q1⟩ => ?_)
  obtain ⟨h1, h2⟩ := tyV_is I1 r1 ty
  refine ⟨T, id, pa, slot, hty, h1, h2, ?_⟩
  have hA := ha cpos pins s1 σ H1 _ I1 q1
  rw [hs] at hA ⊢
  refine Calls.callWith_builtin (by show (false || (backTo cpos (starEach es X.env)).any (·.1)) = false; rw [hplain] <;> rfl) (Calls.evalArgs_plain ?_)
  exact thn hA fun us s2 ⟨vs, H2, I2, r2, q2⟩ => hm pins s2 σ H2 x vs v us Q I2 r1 r2 q2
end
end L2

namespace L2
open PySem PySem.Spec PyProof.Rows

def MtM (X : Cx) (id : String) (r : V → List V → Hp → VK → Prop) : Prop :=
  ∀ (pins : List (Addr × Obj)) (s : Shared) (σ : St) (H : Hp) (x : V) (xs : List V) (v : Value) (us : List Value) (Q : VK), Inv X pins σ H s → RelV x v → Vals xs us → r x xs H Q →
    wpAny (model X.prog X.w) X.A (call (.builtin id) (v :: us)) (EP X pins σ Q) X.xe s

theorem Vals.one : ∀ {x : V} {us : List Value}, Vals [x] us → ∃ u, us = [u] ∧ RelV x u
  | _, _, .cons r .nil => ⟨_, rfl, r⟩
theorem Vals.reverse {xs : List V} {us : List Value} (h : Vals xs us) : Vals xs.reverse us.reverse := by
  induction h with
  | nil => exact .nil
  | cons r t ih => rw [List.reverse_cons, List.reverse_cons]; exact Vals.append ih (.cons r .nil)
theorem Vals.rep {xs : List V} {us : List Value} (h : Vals xs us) : ∀ k : Nat, Vals (List.replicate k xs).flatten (List.replicate k us).flatten
  | 0 => .nil
  | k + 1 => by
    rw [List.replicate_succ, List.replicate_succ, List.flatten_cons, List.flatten_cons]
    exact Vals.append h (Vals.rep h k)
theorem foldl_rep (its : List Value) : ∀ (k : Nat) (acc : List Value),
    List.foldl (fun x1 x2 => x1 ++ x2) acc.toArray (List.replicate k its.toArray) = (acc ++ (List.replicate k its).flatten).toArray
  | 0, acc => by simp
  | k + 1, acc => by
    have e : acc.toArray ++ its.toArray = (acc ++ its).toArray := by simp
    have e2 : (acc ++ its) ++ (List.replicate k its).flatten = acc ++ (List.replicate (k + 1) its).flatten := by
      rw [List.replicate_succ, List.flatten_cons, List.append_assoc]
    rw [← e2, ← foldl_rep its k (acc ++ its), ← e, List.replicate_succ, List.foldl_cons]

section
variable {X : Cx} {pins : List (Addr × Obj)} {σ : St} {H : Hp} {s : Shared} {l b : Addr} {xs ys zs : List V}

theorem Inv.lset {its its' : List Value} {n : Nat} {f : Array Value → Array Value} {t' : Nat} (I : Inv X pins σ H s) (hH : H l = some (.lst xs))
    (e : s.heap.get? l = some { cls := .type "list", data := .seq its.toArray n }) (hf : f its.toArray = its'.toArray) (hv : Vals ys its') (hz : ys.length ≤ sizeLine) :
    Inv X pins σ (upd H l (.lst ys)) { s with heap := s.heap.update l (Obj.mapSeq f), toks := t' } := by
  have q := PySem.IsL.update e f
  rw [hf] at q
  refine I.write (x := l) (e := l) (by rw [hH]; exact trivial) (.inl rfl) (fun b' u hb hu => (Heap.get?_update_other s.heap (Obj.mapSeq f) (Ne.symm hb)).trans hu) ⟨_, q⟩ ?_
  exact ⟨hz, its', _, hv, q⟩
theorem Inv.lnew {its : List Value} {t' : Nat} (I : Inv X pins σ H s) (hv : Vals ys its) (hz : ys.length ≤ sizeLine) :
    Inv X pins σ (upd H s.heap.objs.size (.lst ys)) { s with heap := s.heap.push { cls := .type "list", data := .seq its.toArray }, toks := t' } :=
  I.laid (fun _ _ q => Heap.get?_push_of_some _ q) (Nat.le_refl _) ⟨hz, its, 0, hv, Heap.get?_push_size _ rfl⟩
theorem Inv.fresh (I : Inv X pins σ H s) : H s.heap.objs.size = none := I.hok.fresh (Nat.le_refl _)
theorem Inv.lstM (I : Inv X pins σ H s) (hH : H l = some (.lst xs)) : xs.length ≤ sizeLine ∧ ∃ (its : List Value) (n : Nat), Vals xs its ∧ xs.length = its.length ∧ s.heap.get? l = some { cls := .type "list", data := .seq its.toArray n } := by
  obtain ⟨z, its, n, r, e⟩ := I.hok l _ hH
  exact ⟨z, its, n, r, r.length, e⟩

theorem notLongL {n : Nat} (h : n ≤ sizeLine) : Builtin.List.listTooLong n = false := by
  unfold Builtin.List.listTooLong
  exact decide_eq_false (by omega)
end

section
variable {X : Cx}

def rAppend : V → List V → Hp → VK → Prop := fun x vs H Q => ∃ l xs y, x = .ref l ∧ vs = [y] ∧ H l = some (.lst xs) ∧ xs.length < sizeLine ∧ Q .non (upd H l (.lst (xs ++ [y])))
theorem mt_append : MtM X "list.append" rAppend := by
  intro pins s σ H x vs v us Q I rx rv h
  obtain ⟨l, xs, y, rfl, rfl, hH, hz, q⟩ := h
  cases rx
  obtain ⟨u, rfl, ru⟩ := rv.one
  obtain ⟨z, its, n, r, hl, e⟩ := I.lstM hH
  refine call_meets F.slot_list_append ⟨_, e, rfl⟩ F.entry_list_append (F.args_list_append_2 _ _) (PySem.list_append l its.toArray n u (by rw [List.size_toArray]; omega)) ⟨e, ?_⟩
  refine ⟨.non, _, I.lset (its' := its ++ [u]) hH e (by simp) (r.append (.cons ru .nil)) ?_, rfl, q⟩
  rw [List.length_append, List.length_singleton]
  omega

def rCat : R2 := fun x y H Q => ∃ l b xs zs, x = .ref l ∧ y = .ref b ∧ H l = some (.lst xs) ∧ H b = some (.lst zs) ∧ xs.length + zs.length ≤ sizeLine ∧ ∀ p, H p = none → Q (.ref p) (upd H p (.lst (xs ++ zs)))
theorem op_cat : OpR X (binaryOp .Add) rCat := by
  intro pins s σ H x y v u Q I rx ry h
  obtain ⟨l, b, xs, zs, rfl, rfl, hH, hB, hz, q⟩ := h
  cases rx
  cases ry
  obtain ⟨z, its, n, r, hl, e⟩ := I.lstM hH
  obtain ⟨z2, its2, n2, r2, hl2, e2⟩ := I.lstM hB
  refine PySem.P.add_list e e2 ?_ (by rw [List.size_toArray, List.size_toArray]; omega)
  have ea : its.toArray ++ its2.toArray = (its ++ its2).toArray := by simp
  rw [ea]
  exact ⟨.ref _, _, I.lnew (t' := s.toks) (r.append r2) (by rw [List.length_append]; omega), rfl, q _ I.fresh⟩
def rRep : R2 := fun x y H Q => ∃ l k xs, x = .ref l ∧ y = .int k ∧ H l = some (.lst xs) ∧ -(2 ^ 63) ≤ k ∧ k < 2 ^ 63 ∧ xs.length * k.toNat ≤ sizeLine ∧
  ∀ p, H p = none → Q (.ref p) (upd H p (.lst (List.replicate k.toNat xs).flatten))
theorem len_rep {α : Type} (xs : List α) (k : Nat) : (List.replicate k xs).flatten.length = k * xs.length := by
  induction k with
  | zero => simp
  | succ k ih => rw [List.replicate_succ, List.flatten_cons, List.length_append, ih, Nat.succ_mul, Nat.add_comm]
theorem op_rep : OpR X (binaryOp .Mult) rRep := by
  intro pins s σ H x y v u Q I rx ry h
  obtain ⟨l, k, xs, rfl, rfl, hH, h1, h2, hz, q⟩ := h
  cases rx
  obtain ⟨t, rfl⟩ := ry
  obtain ⟨z, its, n, r, hl, e⟩ := I.lstM hH
  have hlen : its.toArray.size * k.toNat ≤ sizeLine := by rw [List.size_toArray, ← hl]; exact hz
  have hcap : ¬ its.toArray.size * k.toNat > (2 ^ 63 - 1) / 8 := by
    have : (sizeLine : Nat) ≤ (2 ^ 63 - 1) / 8 := by decide
    omega
  have hfit : ¬ (!Builtin.List.listFitsIndex k) = true := by
    rw [fitsIndex_both h1 h2]
    exact Bool.false_ne_true
  have hlong : ¬ Builtin.List.listTooLong (its.toArray.size * k.toNat) = true := by
    rw [notLongL hlen]
    exact Bool.false_ne_true
  have hnew : List.foldl (fun x1 x2 => x1 ++ x2) #[] (List.replicate (if its.toArray.isEmpty = true then 0 else k.toNat) its.toArray) = (List.replicate k.toNat its).flatten.toArray := by
    have f0 : ∀ m : Nat, List.foldl (fun x1 x2 => x1 ++ x2) #[] (List.replicate m its.toArray) = (List.replicate m its).flatten.toArray := fun m => by
      have := foldl_rep its m []
      rw [List.nil_append] at this
      exact this
    rw [f0]
    cases its with
    | nil => simp
    | cons a r' => rw [if_neg (by simp)]
  refine wpAny_binaryOp_repeat_ref (T := "list") (U := "int") (by decide) ⟨_, e, rfl⟩ (fun s' => typeIs_int s' k t) noFill_list_mul F.fills_int_mul F.slot_int_rmul repeat_list F.slot_int_index.lookup
    (call_meets F.slot_int_rmul (typeIs_int s k t) F.entry_int_rmul (F.args_int_rmul_2 _ _) (int___rmul___int_list k t l its.toArray n)
      ⟨e, rfl, ⟨_, e, rfl⟩, call_meets F.slot_list_mul ⟨_, e, rfl⟩ F.entry_list_mul (F.args_list_mul_2 _ _) (AutoListH.list___mul___list_int_3 l its.toArray n k t hfit hcap hlong) ⟨e, ?_⟩⟩)
  rw [hnew]
  exact ⟨.ref _, _, I.lnew (t' := s.toks) (r.rep k.toNat) (by rw [len_rep, Nat.mul_comm]; exact hz), rfl, q _ I.fresh⟩

end

section
variable {prog : Program} {w : World} {A : Around} {E : Value → Shared → Prop} {s : Shared}
end

section
variable {X : Cx}
end
end L2

namespace Att
open PySem PySem.W PySem.Calls PyProof.Rows

theorem ints_of_wellAll {P : Params} {h : Heap} : ∀ (ns : List Int) (vs : List Value), WellAll P h vs (ns.map WData.int) → IntsAre vs ns := by
  intro ns
  induction ns with
  | nil =>
    intro vs w
    rw [List.map_nil] at w
    cases w
    exact .nil
  | cons n ns ih =>
    intro vs w
    rw [List.map_cons] at w
    cases w with
    | cons a b =>
      cases a
      exact .cons _ _ (ih _ b)

theorem script_of {l : OpenLaw} {n : Nat} (hn : l.most = some n) {P : Params} {h : Heap} {args : List WData} {vals : List Value}
    (hpre : l.row.toRowW.claim.pre args = true) (hwl : WellAll P h vals args) :
    ∃ a vs ns, vals = [Value.ref a] ∧ args = [WData.list (ns.map WData.int)] ∧ h.get? a = some { cls := .type "list", data := .seq vs.toArray } ∧ IntsAre vs ns ∧ ns.length ≤ n := by
  have hsh : WShape.hasAll [] args [.list .int] = true := (pre_splitW hpre).1
  have hc : l.pre.holds [] { args := args } = true := (pre_splitW hpre).2
  obtain ⟨d, r, rfl, h1, h2⟩ := hasAllW_cons hsh
  obtain rfl := hasAllW_nil h2
  obtain ⟨xs, rfl, h3⟩ := hasW_list h1
  obtain ⟨ns, rfl⟩ := items_int h3
  have hlen : ns.length ≤ n := by
    unfold OpenLaw.pre at hc
    have h4 : (WTm.not (.lt (.lit (.int (n : Int))) (.len (.arg 0)))).holds [] { args := [.list (ns.map .int)] } = true := by
      have h4 := (holds_andW hc).1
      rw [hn] at h4
      exact h4
    have h5 := condW_of h4 (w_not (w_lt w_lit (w_len_list (w_arg rfl))))
    rw [List.length_map] at h5
    refine Nat.le_of_not_lt fun q => ?_
    have q' : (n : Int) < ((ns.length : Nat) : Int) := by omega
    first
      | (rw [decide_eq_true q'] at h5; exact absurd h5 (by decide))
      | (simp at h5; omega)
  cases hwl with
  | cons w1 w2 =>
    cases w2
    cases w1 with
    | list ho hall => exact ⟨_, _, ns, rfl, rfl, ho, ints_of_wellAll ns _ hall, hlen⟩

theorem post_true (l : OpenLaw) (args : List WData) : l.row.toRowW.claim.post args (.bool true) args = true :=
  postW_of (r := l.row.toRowW) (X := (true == true))
    (show WShape.has [] (.bool true) .bool = true by first | rfl | decide | simp [WShape.has, WShape.arms, WShape.armsAll])
    (show (WTm.eq .res (.lit (.bool true))).value [] { args := args, res := some (.bool true), after := args } = some (.bool (true == true)) from w_eq_bool (w_res rfl) w_lit) rfl

theorem attach_call {l : OpenLaw} {n : Nat} {q : Program} {loose : List Str} {XP : (Str → Option Value) → Heap → Prop} {YP : World → Heap → Prop} {d : DefRec}
    (hn : l.most = some n) (hdf : d.params.defaults = [])
    (call : ∀ (w : World) (s₀ s₁ : Shared) (mg mb : Str → Option Value) (fa : Addr) (o : Obj) (pm cd doc : Value) (a : Addr) (vs : List Value) (ns : List Int),
      Ground q loose [] XP w s₀ mg mb s₁.heap → YP w s₁.heap →
      s₁.heap.get? fa = some o → o.data = .func (docDef d.name d.params d.body d.scope pm cd doc) → s₁.heap.CodeRec cd d.name → mg d.name = some (.ref fa) →
      s₁.heap.get? a = some { cls := .type "list", data := .seq vs.toArray } → IntsAre vs ns → ns.length ≤ n → s₁.gens = #[] →
      codeAny (model l.prog w) callerA (.call (.ref fa) ⟨[.ref a], []⟩) (fun r s' => r = .ok (.ret (.bool true)) ∧ OldK s₁.heap s'.heap ∧ s'.os = s₁.os ∧ AllBare s'.gens) s₁) :
    WalkO q loose XP YP l.row.toRowW d [] (fun f vs => PySem.call f vs) := by
  intro w s₀ s₁ mg mb G Y fa o pm cd doc dV kV ho hd hcd hD hmg hg args vals as hpre hlay hrd hwl hlo
  obtain rfl : dV = .none := Dflts.none hD hdf
  obtain rfl : kV = .none := Dflts.noKw hD
  obtain ⟨a, vs, ns, rfl, rfl, hobj, hints, hlen⟩ := script_of hn hpre hwl
  refine enter_call (codeAny_mono (call w s₀ s₁ mg mb fa o pm cd doc a vs ns G Y ho (fd_plain hd) hcd hmg hobj hints hlen hg) fun r s' hq => ?_)
  obtain ⟨rfl, h2, h3, h4⟩ := hq
  exact ⟨.inl ⟨.bool true, .bool true, [], rfl, fun _ => rfl, .bool true, post_true l _, fun _ => ⟨List.Pairwise.nil, fun _ hm => (nomatch hm)⟩⟩, h2, h3, h4⟩

section
variable {prog : Program} {w : World} {A : Around} {E : Value → Shared → Prop} {s : Shared} {K : Frag}

end
end Att

namespace L2
open PySem PySem.Spec PyProof.Rows

theorem vals_ints : ∀ {vs : List Value} {ns : List Int}, IntsAre vs ns → Vals (ns.map V.int) vs
  | _, _, .nil => .nil
  | _, _, .cons n t h => .cons ⟨t, rfl⟩ (vals_ints h)

def Only (H : Hp) : Prop := ∀ b, H b = none ∨ ∃ o xs, H b = some (.frz o (.lst xs))

theorem law_call {P : Program} {w : World} {K : PySem.W.Frag} {mg mb : Str → Option Value} {CX : CXT} {k : Nat} {fa a : Addr} {fd : FuncData} {x : Str} {sp : Sp} {s₁ : Shared} {vs : List Value} {ns : List Int}
    (KX : K.In s₁.heap) (hns : s₁.heap.Ns mainGlobals mg) (hb : s₁.heap.Ns builtinsNs mb) (hbb : ∀ x : Str, x ≠ "__name__" → mb x = bootBuiltins x) (hlim : s₁.heap.NoLimit) (hg : s₁.gens = #[])
    (ha : s₁.heap.get? a = some { cls := .type "list", data := .seq vs.toArray }) (hi : IntsAre vs ns) (hl : ns.length ≤ sizeLine) (hr : Room k callerA)
    (F : ∀ base : Heap, K.In base → base.Ns mainGlobals mg → FnOk P w K mg base CX k fa fd [x] sp) (hbind : ∀ (s : Shared) (u : Value), BindsTo s fd ⟨[u], []⟩ [(x, u)])
    (hsp : ∀ H : Hp, Only H → SqL K H a (ns.map V.int) → sp [.ref a] H (fun v _ => v = .bl true) fun _ _ _ => False)
    (hCX : ∀ H e s', CX [] H s₁ (fun _ _ _ => False) e s' → False) :
    codeAny (model P w) callerA (.call (.ref fa) ⟨[.ref a], []⟩) (fun r s' => r = .ok (.ret (.bool true)) ∧ OldK s₁.heap s'.heap ∧ s'.os = s₁.os ∧ AllBare s'.gens) s₁ := by
  have rv := vals_ints hi
  have lenV := hi.length
  -- from an abstract heap in which nothing but the script may be tracked
  have core : ∀ H : Hp, Only H → SqL K H a (ns.map V.int) → HOk P w H s₁.heap → (∀ b, H b ≠ none → b = a) → (H a ≠ none → K.lookup a = none) →
      codeAny (model P w) callerA (.call (.ref fa) ⟨[.ref a], []⟩) (fun r s' => r = .ok (.ret (.bool true)) ∧ OldK s₁.heap s'.heap ∧ s'.os = s₁.os ∧ AllBare s'.gens) s₁ := by
    intro H hO hS hok hA hK
    have base_of : ∀ {b : Addr} {o : Obj}, s₁.heap.get? b = some o → H b = none → (hidT s₁.heap H).get? b = some o := fun e n => hidT_get e n
    have noA : ∀ {b : Addr} {o : Obj} {es : Array DictEntry} {ep : Nat}, s₁.heap.get? b = some o → o.data = .dict es ep → H b = none := fun {b o es ep} e d => by
      cases q : H b with
      | none => rfl
      | some u =>
        have e' : b = a := hA b (by rw [q]; simp)
        subst e'
        rw [ha] at e; cases e
        have d' : Data.seq vs.toArray _ = Data.dict es ep := d
        cases d'
    have nsK : ∀ {b : Addr} {m : Str → Option Value}, s₁.heap.Ns b m → (hidT s₁.heap H).Ns b m := fun {b m} ⟨o, es, ep, e, d, r⟩ => ⟨o, es, ep, base_of e (noA e d), d, r⟩
    have hKb : K.In (hidT s₁.heap H) := fun b o e => base_of (KX b o e) (by
      cases q : H b with
      | none => rfl
      | some u =>
        have e' : b = a := hA b (by rw [q]; simp)
        subst e'
        rw [hK (by rw [q]; simp)] at e; cases e)
    have hM : Mod K mg (hidT s₁.heap H) := ⟨hKb, nsK hns, ⟨mb, nsK hb, hbb⟩, let ⟨mc, h1, h2⟩ := hlim; ⟨mc, nsK h1, h2⟩⟩
    have e0 : Env0 P w K mg (hidT s₁.heap H) callerA [] s₁ H := ⟨rfl, hM, fun b o e => of_hidT e, Nat.le_of_eq (hidT_size _ _), trivial, fun b hb => absurd (show b ∈ ([] : List Addr) from hb) (by simp), hok, .of_eq hg⟩
    refine codeAny_mono ((F _ hKb (nsK hns)).run callerA [] s₁ H ⟨[.ref a], []⟩ [.ref a] [.ref a] _ _ hr e0 (hbind s₁ (.ref a)) (.cons rfl .nil) (hsp H hO hS)) fun r s' h => ?_
    cases r with
    | error e => exact (hCX H e s' h).elim
    | ok fl =>
      cases fl with
      | next => exact False.elim h
      | brk => exact False.elim h
      | cont => exact False.elim h
      | ret u =>
        obtain ⟨v, H', os, bare, un, hok', r', q⟩ := h
        have q' : v = .bl true := q
        subst q'
        obtain rfl : u = Value.bool true := r'
        refine ⟨rfl, OldK.of_keep fun b o e => ?_, os, bare⟩
        cases q : H b with
        | none => exact un.keep b o e q (by intro z; exact absurd (show b ∈ ([] : List Addr) from z) (by simp)) (by simp)
        | some u =>
          rcases hO b with z | ⟨ob, xs, z⟩
          · rw [q] at z; cases z
          · have z2 := un.frzs b ob _ z
            obtain ⟨e1, _⟩ := hok b _ z
            obtain ⟨e2, _⟩ := hok' b _ z2
            rw [e] at e1; cases e1
            exact e2
  cases hk : K.lookup a with
  | some o =>
    -- the script is one of the module's own objects
    have e := KX a o hk
    rw [ha] at e
    cases e
    refine core (fun _ => none) (fun _ => .inl rfl) (.inr ⟨_, vs.toArray, _, hk, rfl, rfl, rfl, by rw [List.size_toArray, lenV]; exact hl, by simpa using rv⟩) (fun b u z => by have z' : (none : Option HO) = some u := z; cases z') (fun b z => absurd rfl z) fun z => absurd rfl z
  | none =>
    refine core (fun b => if b = a then some (.frz { cls := .type "list", data := .seq vs.toArray } (.lst (ns.map V.int))) else none) (fun b => ?_) (.inl (.inr ⟨{ cls := .type "list", data := .seq vs.toArray }, if_pos rfl⟩)) (fun b u z => ?_) (fun b z => ?_) fun _ => hk
    · by_cases hb : b = a
      · exact .inr ⟨_, _, if_pos hb⟩
      · exact .inl (if_neg hb)
    · by_cases hb : b = a
      · have z' := (if_pos hb).symm.trans z
        cases z'
        subst hb
        exact ⟨ha, by rw [List.length_map]; exact hl, vs, _, rv, ha⟩
      · have z' := (if_neg hb).symm.trans z
        cases z'
    · by_cases hb : b = a
      · exact hb
      · exact absurd (if_neg hb) z
end L2

namespace L2
open PySem PySem.Spec PyProof.Rows

theorem walk_of {l : PySem.W.OpenLaw} {n k : Nat} {q : Program} {loose : List Str} {XP : (Str → Option Value) → Heap → Prop} {YP : World → Heap → Prop} {d : DefRec} {K : Params → PySem.W.Frag} {CX : World → CXT} {sp : World → Sp} {x : Str}
    (hn : l.most = some n) (hn2 : n ≤ sizeLine) (hdf : d.params.defaults = []) (hr : Room k callerA)
    (hY : ∀ (w : World) (h : Heap), YP w h → (K w.params).In h)
    (F : ∀ (w : World) (mg : Str → Option Value) (fa : Addr) (h : Heap), (K w.params).In h → h.Ns mainGlobals mg → mg d.name = some (.ref fa) →
      ∃ fd : FuncData, (∀ (s : Shared) (u : Value), BindsTo s fd ⟨[u], []⟩ [(x, u)]) ∧
        ∀ base : Heap, (K w.params).In base → base.Ns mainGlobals mg → FnOk l.prog w (K w.params) mg base (CX w) k fa fd [x] (sp w))
    (hsp : ∀ (w : World) (H : Hp) (a : Addr) (ns : List Int), ns.length ≤ n → Only H → SqL (K w.params) H a (ns.map V.int) → sp w [.ref a] H (fun v _ => v = .bl true) fun _ _ _ => False)
    (hCX : ∀ (w : World) (H : Hp) (s : Shared) (e : Value) (s' : Shared), CX w [] H s (fun _ _ _ => False) e s' → False) :
    PySem.W.WalkO q loose XP YP l.row.toRowW d [] (fun f vs => PySem.call f vs) := by
  refine Att.attach_call hn hdf fun w s₀ s₁ mg mb fa o pm cd doc a vs ns G Y ho hd hcd hmg hobj hints hlen hg => ?_
  have KX := hY w _ Y
  obtain ⟨fd, hb, hF⟩ := F w mg fa _ KX G.T.g hmg
  exact law_call KX G.T.g G.T.b G.T.builtins G.T.nolimit hg hobj hints (Nat.le_trans hlen hn2) hr hF hb (fun H hO hS => hsp w H a ns hlen hO hS) fun H e s' => hCX w H s₁ e s'
end L2

namespace L2
open PySem PySem.Spec PyProof.Rows

def defArgs (s : Stmt) : Arguments := match s with
  | .FunctionDef _ a _ _ _ _ _ _ _ _ => a
  | _ => { posonlyargs := [], args := [], vararg := none, kwonlyargs := [], kw_defaults := [], kwarg := none, defaults := [] }
def defBody (s : Stmt) : List Stmt := match s with
  | .FunctionDef _ _ b _ _ _ _ _ _ _ => b
  | _ => []
def defScope (s : Stmt) : Scope := match s with
  | .FunctionDef _ _ _ _ _ _ sc _ _ _ => sc
  | _ => { kind := .function, names := [], isGenerator := false, isCoroutine := false }

abbrev CX0 : CXT := fun _ _ _ _ _ _ => False
abbrev E0 : XK := fun _ _ _ => False
theorem pass0 {X : Cx} : Passes CX0 X E0 := fun _ _ _ _ _ _ _ h => h.elim

structure Fun (K : PySem.W.Frag) (x qual : Str) (st : Stmt) (f : Addr) (fd : FuncData) : Prop where
  ex : ∃ (oc : Value) (od : Option Addr) (kV doc pm : Value) (an : Option Addr) (cdv ct : Value) (osl : Array (Option Value)),
    fd = PySem.W.fnOf x qual (defArgs st) (defBody st) (defScope st) .none kV doc pm an cdv ct ∧ K.lookup f = some ⟨oc, od, .func fd, osl⟩ ∧ PySem.W.codeIn K cdv qual = true
  kp : PySem.W.keepIn K (.ref f) = true
section
variable {P : Program} {w : World} {K : PySem.W.Frag} {mg : Str → Option Value} {base : Heap}
theorem Fun.ok {x qual : Str} {st : Stmt} {f : Addr} {fd : FuncData} {N ps : List Str} {k : Nat} {sp : Sp} (F : Fun K x qual st f fd) (S : FnScope N ps (defScope st)) (len : ∀ vs H Q E, sp vs H Q E → vs.length = ps.length)
    (hbody : ∀ (cdv : Value) (A : Around) (outer : List Env) (s : Shared) (H : Hp) (vs : List V) (Q : VK) (E : XK), Room k (A.deeper (envOfC qual (defScope st) s.heap.objs.size f cdv)) → sp vs H Q E →
      ∃ t, PSs (cxOf CX0 P w K mg base N qual (defScope st) f cdv A outer s H E).nox (defBody st) t ∧ t { nx := fun _ H' => Q .non H', rt := Q } (start N vs) H) : FnOk P w K mg base CX0 (k + 1) f fd ps sp := by
  obtain ⟨oc, od, kV, doc, pm, an, cdv, ct, osl, rfl, lk, hcd⟩ := F.ex
  refine fn_of lk hcd S len fun A outer s H vs Q E hr hsp => ?_
  obtain ⟨t, h, q⟩ := hbody cdv A outer s H vs Q E hr hsp
  exact ⟨t, h.nox, q⟩
theorem Fun.binds {x qual : Str} {st : Stmt} {f : Addr} {fd : FuncData} {ps : List Str} (F : Fun K x qual st f fd)
    (h : ∀ (kV doc pm : Value) (an : Option Addr) (cdv ct : Value) (us : List Value), us.length = ps.length → bindArgs (PySem.W.fnOf x qual (defArgs st) (defBody st) (defScope st) .none kV doc pm an cdv ct) ⟨us, []⟩ = pure (ps.zip us)) : Binds K fd ps [] := by
  obtain ⟨oc, od, kV, doc, pm, an, cdv, ct, osl, rfl, lk, hcd⟩ := F.ex
  exact .all (h kV doc pm an cdv ct)
theorem fun_mk {x qual : Str} {st : Stmt} {f : Addr} {oc : Value} {od an : Option Addr} {osl : Array (Option Value)} {kV doc pm cdv ct : Value} (l : K.lookup f = some ⟨oc, od, .func (PySem.W.fnOf x qual (defArgs st) (defBody st) (defScope st) .none kV doc pm an cdv ct), osl⟩)
    (c : PySem.W.codeIn K cdv qual = true) (k : PySem.W.keepIn K (.ref f) = true) : Fun K x qual st f (PySem.W.fnOf x qual (defArgs st) (defBody st) (defScope st) .none kV doc pm an cdv ct) := ⟨⟨oc, od, kV, doc, pm, an, cdv, ct, osl, rfl, l, c⟩, k⟩
end
theorem small1000 {n : Nat} (h : n ≤ 1000) : n < sizeLine := Nat.lt_of_le_of_lt h (by decide)

section
variable {X : Cx}
theorem pv (i : Nat) {x : Str} {pos : Pos} (hN : X.N[i]? = some x := by rfl) (hv : Vis X.env.scope x := by first | exact Or.inl rfl | exact Or.inr (Or.inl rfl) | exact Or.inr (Or.inr rfl)) (hd : (x == ("__debug__" : Str)) = false := by decide)
    (hcd : (x == ("__classdict__" : Str)) = false := by decide) : PE X (.Name x pos) (tVar i) := pe_var hN hv hd hcd
end

theorem iteF {A B : Prop} (h : B) : if false = true then A else B := by
  rw [if_neg Bool.false_ne_true]
  exact h
theorem iteT {A B : Prop} (h : A) : if true = true then A else B := by
  rw [if_pos rfl]
  exact h
theorem ite2 {c A B : Prop} [Decidable c] (h1 : c → A) (h2 : ¬ c → B) : if c then A else B := by
  by_cases h : c
  · rw [if_pos h]
    exact h1 h
  · rw [if_neg h]
    exact h2 h
def Same (H H' : Hp) : Prop := ∀ b o, H b = some o → H' b = some o
theorem Same.trans {H H1 H2 : Hp} (a : Same H H1) (b : Same H1 H2) : Same H H2 := fun c o h => b c o (a c o h)
theorem Same.free {H H' : Hp} (e : Same H H') {l : Addr} (h : H' l = Option.none) : H l = Option.none := by
  cases q : H l with
  | none => rfl
  | some o =>
    rw [e l o q] at h
    cases h
theorem Same.seq {K : PySem.W.Frag} {H H' : Hp} {a : Addr} {xs : List V} (e : Same H H') (h : SqL K H a xs) : SqL K H' a xs := by
  rcases h with (h | ⟨o, h⟩) | h
  · exact .inl (.inl (e _ _ h))
  · exact .inl (.inr ⟨o, e _ _ h⟩)
  · exact .inr h

end L2

set_option Elab.async false
set_option linter.all false
set_option maxRecDepth 100000
set_option maxHeartbeats 4000000
namespace L3
open PySem PySem.Spec PyProof.Rows L2
abbrev St := L2.St

theorem same_new {H : Hp} {p : Addr} (h : H p = none) (o : HO) : Same H (upd H p o) := fun b u q => by rw [upd_ne (ne_of_none q h)]; exact q
section
variable {X : Cx}

def tMid (t : TS) : TS := fun D σ H => ∃ mid : St → Hp → Prop, t { D with nx := mid } σ H ∧ ∀ σ' H', mid σ' H' → D.nx σ' H'
theorem ps_mid {st : Stmt} {t : TS} (h : PS X st t) : PS X st (tMid t) := by
  intro pins s σ H D I hq
  obtain ⟨mid, ht, hm⟩ := hq
  refine thn (h pins s σ H _ I ht) fun f s' q => ?_
  cases f with
  | next => obtain ⟨σ', H', I', q⟩ := q; exact ⟨σ', H', I', hm _ _ q⟩
  | brk => exact q
  | cont => exact q
  | ret v => exact q

theorem call_isinst : CallR X (.builtin "isinstance") (fun xs H Q => ∃ x n t b, xs = [x, .ty n] ∧ TyOf X.K H x t ∧ PySem.W.kitOne X.K t (.type n) = some b ∧ Q (.bl b) H) := by
  intro pins s σ H xs us Q I r h
  obtain ⟨x, n, t, b, rfl, ty, e, q⟩ := h
  obtain ⟨u, v, rfl, rx, ry⟩ := vals2 r
  cases ry
  exact isinst_ok I rx ty e fun tk => ⟨.bl b, H, I.tok tk, rfl, q⟩

mutual
def RdD (K : PySem.W.Frag) (H : Hp) : V → PyData → Prop
  | x, .none => x = .non
  | x, .bool b => x = .bl b
  | x, .int i => x = .int i
  | x, .str z => x = .str z
  | x, .list ds => ∃ a xs, x = .ref a ∧ SqL K H a xs ∧ RdDs K H xs ds
  | x, .tuple ds => ∃ a xs, x = .ref a ∧ SqT K H a xs ∧ RdDs K H xs ds
  | _, .dict _ => False
def RdDs (K : PySem.W.Frag) (H : Hp) : List V → List PyData → Prop
  | [], [] => True
  | x :: xs, d :: ds => RdD K H x d ∧ RdDs K H xs ds
  | [], _ :: _ => False
  | _ :: _, [] => False
end
mutual
theorem reads_of {pins : List (Addr × Obj)} {σ : St} {H : Hp} {s : Shared} (I : Inv X pins σ H s) : ∀ (d : PyData) (x : V) (v : Value), RelV x v → RdD X.K H x d → ∃ as, Reads s.heap v d as
  | .none, x, v, r, h => by
    rw [RdD] at h; subst h; cases r; exact ⟨_, .none⟩
  | .bool b, x, v, r, h => by
    rw [RdD] at h; subst h; cases r; exact ⟨_, .bool b⟩
  | .int i, x, v, r, h => by
    rw [RdD] at h; subst h; obtain ⟨t, rfl⟩ := r; exact ⟨_, .int i t⟩
  | .str z, x, v, r, h => by
    rw [RdD] at h; subst h; obtain ⟨t, rfl⟩ := r; exact ⟨_, .str z t⟩
  | .list ds, x, v, r, h => by
    rw [RdD] at h
    obtain ⟨a, xs, rfl, hq, hs⟩ := h
    cases r
    obtain ⟨its, rv, p, hz⟩ := I.list hq
    obtain ⟨o, ho, hc, n, hd⟩ := p.isList
    obtain ⟨as, ra⟩ := readsAll_of I ds xs its rv hs
    exact ⟨_, .list ho hc hd (by simpa using ra)⟩
  | .tuple ds, x, v, r, h => by
    rw [RdD] at h
    obtain ⟨a, xs, rfl, hq, hs⟩ := h
    cases r
    obtain ⟨its, rv, p, hz⟩ := I.tuple hq
    obtain ⟨o, ho, hc, n, hd⟩ := p
    obtain ⟨as, ra⟩ := readsAll_of I ds xs its rv hs
    exact ⟨_, .tuple ho hc hd (by simpa using ra)⟩
  | .dict _, x, v, r, h => by rw [RdD] at h; exact h.elim
theorem readsAll_of {pins : List (Addr × Obj)} {σ : St} {H : Hp} {s : Shared} (I : Inv X pins σ H s) : ∀ (ds : List PyData) (xs : List V) (us : List Value), Vals xs us → RdDs X.K H xs ds → ∃ as, ReadsAll s.heap us ds as
  | [], xs, us, r, h => by
    cases r with
    | nil => exact ⟨_, .nil⟩
    | cons r rr => rw [RdDs] at h; exact h.elim
  | d :: ds, xs, us, r, h => by
    cases r with
    | nil => rw [RdDs] at h; exact h.elim
    | cons r rr =>
      rw [RdDs] at h
      obtain ⟨a1, h1⟩ := reads_of I d _ _ r h.1
      obtain ⟨a2, h2⟩ := readsAll_of I ds _ _ rr h.2
      exact ⟨_, .cons h1 h2⟩
end
def rNeD (K : PySem.W.Frag) : R2 := fun x y H Q => ∃ dx dy, RdD K H x dx ∧ RdD K H y dy ∧ dx.canLay0 = true ∧ dy.canLay0 = true ∧ min dx.depth dy.depth ≤ 60 ∧ Q (.bl (!PyData.eqv dx dy)) H
theorem op_neD (hu : X.A.units + 64 < cLine) : OpR X (compareOp .NotEq) (rNeD X.K) := by
  intro pins s σ H x y v u Q I rx ry h
  obtain ⟨dx, dy, h1, h2, c1, c2, hd, q⟩ := h
  obtain ⟨as, ra⟩ := reads_of I dx x v rx h1
  obtain ⟨bs, rb⟩ := reads_of I dy y u ry h2
  exact SeqAt.compareNe_reads ra rb c1 c2 (by omega) ⟨.bl _, H, I, rfl, q⟩
end

theorem rd_ints {K : PySem.W.Frag} {H : Hp} : ∀ ns : List Int, RdDs K H (ns.map V.int) (ns.map PyData.int)
  | [] => by rw [List.map_nil, List.map_nil, RdDs]; trivial
  | n :: r => by
    rw [List.map_cons, List.map_cons, RdDs, RdD]
    exact ⟨rfl, rd_ints r⟩
theorem rd_list {K : PySem.W.Frag} {H : Hp} {a : Addr} {ns : List Int} (h : SqL K H a (ns.map V.int)) : RdD K H (.ref a) (.list (ns.map PyData.int)) := by
  rw [RdD]
  exact ⟨a, _, rfl, h, rd_ints ns⟩
theorem lay_ints : ∀ ns : List Int, PyData.canLayAll0 (ns.map PyData.int) = true
  | [] => rfl
  | n :: r => by
    rw [List.map_cons, PyData.canLayAll0, PyData.canLay0, lay_ints r]; rfl
theorem depth_ints : ∀ ns : List Int, PyData.depthAll (ns.map PyData.int) = 0
  | [] => rfl
  | n :: r => by
    rw [List.map_cons, PyData.depthAll, depth_ints r]; rfl
theorem eqv_ints : ∀ ns ms : List Int, PyData.eqvAll (ns.map PyData.int) (ms.map PyData.int) = decide (ns = ms)
  | [], [] => rfl
  | [], _ :: _ => by simp [PyData.eqvAll]
  | _ :: _, [] => by simp [PyData.eqvAll]
  | n :: r, m :: t => by
    rw [List.map_cons, List.map_cons, PyData.eqvAll, PyData.eqv, eqv_ints r t, Bool.eq_iff_iff]
    simp
section
variable {X : Cx}
def rNeL (K : PySem.W.Frag) : R2 := fun x y H Q => ∃ (a b : Addr) (ns ms : List Int), x = .ref a ∧ y = .ref b ∧ SqL K H a (ns.map V.int) ∧ SqL K H b (ms.map V.int) ∧ Q (.bl (!decide (ns = ms))) H
theorem depth_list (ns : List Int) : (PyData.list (ns.map PyData.int)).depth = 1 := by rw [PyData.depth, depth_ints]
theorem op_neL (hu : X.A.units + 64 < cLine) : OpR X (compareOp .NotEq) (rNeL X.K) := by
  intro pins s σ H x y v u Q I rx ry h
  obtain ⟨a, b, ns, ms, rfl, rfl, h1, h2, q⟩ := h
  refine op_neD hu pins s σ H _ _ v u Q I rx ry ⟨_, _, rd_list h1, rd_list h2, by rw [PyData.canLay0]; exact lay_ints ns, by rw [PyData.canLay0]; exact lay_ints ms, by rw [depth_list, depth_list]; decide, ?_⟩
  rw [PyData.eqv, eqv_ints]
  exact q
end

def Ite (K : PySem.W.Frag) (a : Addr) : It :=
  ⟨fun i H => ∃ xs x, SqL K H a xs ∧ xs[i]? = some x,
   fun i H x H' => ∃ p y, x = .ref p ∧ H p = none ∧ H' = upd H p (.tup [.int (i : Int), y]) ∧ ∀ xs, SqL K H a xs → xs[i]? = some y,
   fun i H => ∃ xs, SqL K H a xs ∧ xs.length ≤ i⟩
theorem turn_enum {P : Program} {w : World} {K : PySem.W.Frag} {elts : List Expr} {kk : Nat} {pos : Pos} (a it e : Addr) (hne : e ≠ it) :
    Turn P w K (.Tuple elts kk pos) (Ite K a) [e, it] e (fun i h => (∃ old, IsEnum h e it (i : Int) old) ∧ h.IsListIter it a i) where
  mem := by simp
  obj := fun i h st b hb => by
    obtain ⟨⟨old, he⟩, hit⟩ := st
    rcases List.mem_cons.mp hb with hb | hb
    · subst hb
      exact ⟨_, he, fun v z => by
        have z' : Data.fields _ = Data.cell v := z
        cases z'⟩
    · have e2 : b = it := by simpa using hb
      subst e2
      obtain ⟨o, e, c, d⟩ := hit
      exact ⟨o, e, fun v z => by rw [d] at z; cases z⟩
  keep := fun i h h' st k => by
    obtain ⟨⟨old, he⟩, hit⟩ := st
    exact ⟨⟨old, k e (by simp) _ he⟩, hit.at fun o q => k it (by simp) o q⟩
  item := by
    intro X hP hw hK hc i pins s σ H E I hf st hg
    subst hP hw hK
    obtain ⟨xs, x, hq, hx⟩ := hg
    obtain ⟨its, rv, p, hz⟩ := I.list hq
    obtain ⟨u, hu, ru⟩ := rv.get hx
    obtain ⟨⟨old, he⟩, hit⟩ := st
    obtain ⟨f0, f1, f2, f3, f4, f5⟩ := hf e (by simp)
    obtain ⟨g0, g1, g2, g3, g4, g5⟩ := hf it (by simp)
    refine wpAny_pyNext_enum_item he hit p.isList (x := u) (by simpa using hu) hne fun h1 heo hit1 ht1 hz1 hk1 => ?_
    refine ⟨_, rfl, wpAny_letOwnedTupleGo_enum heo fun h2 he2 hs2 => ?_⟩
    have hs2' : Heap.SameBut e h1 h2 := hs2
    have helt : e < s.heap.objs.size := Heap.lt_size he
    have old2 : ∀ b o, b ≠ e → b ≠ it → s.heap.get? b = some o → h2.get? b = some o := fun b o n1 n2 q => (hs2'.2 b n1).trans (hk1 b o n1 n2 q)
    have hTe : s.heap.objs.size ≠ e := Nat.ne_of_gt helt
    have ht2 : h2.get? s.heap.objs.size = some { cls := .type "tuple", data := .seq #[.int (i : Int) s.toks, u] } := (hs2'.2 _ hTe).trans ht1
    have hn : H s.heap.objs.size = none := I.hok.fresh (Nat.le_refl _)
    have nch : ∀ b, b ∉ [e, it] → b ≠ e ∧ b ≠ it := fun b hb => ⟨fun z => hb (by simp [z]), fun z => hb (by simp [z])⟩
    have trk : ∀ b o, H b = some o → b ≠ e ∧ b ≠ it := fun b o q => ⟨ne_of_none q f0, ne_of_none q g0⟩
    have new : ObjOk X.prog X.w (upd H s.heap.objs.size (.tup [.int (i : Int), x])) h2 s.heap.objs.size (.tup [.int (i : Int), x]) :=
      ⟨by show 2 ≤ sizeLine; rw [sizeLine_eq]; decide, [.int (i : Int) s.toks, u], .cons ⟨_, rfl⟩ (.cons ru .nil), ⟨_, ht2, rfl, _, rfl⟩⟩
    have hok2 : HOk X.prog X.w (upd H s.heap.objs.size (.tup [.int (i : Int), x])) h2 := fun b o q => by
      by_cases hb : b = s.heap.objs.size
      · subst hb; rw [upd_same] at q; cases q; exact new
      · rw [upd_ne hb] at q
        refine (I.hok b o q).stay (fun c v hc' r => ?_) (fun c r => by rw [upd_ne (ne_of_none r hn)]; exact r) fun c ys r => by rw [upd_ne (ne_of_none r hn)]; exact r
        have hcc : c ≠ e ∧ c ≠ it := by
          rcases hc' with z | z
          · subst z; exact trk c o q
          · exact trk c _ z
        exact old2 c v hcc.1 hcc.2 r
    have I2 : Inv X pins σ (upd H s.heap.objs.size (.tup [.int (i : Int), x])) { s with heap := h2, toks := s.toks + 1 } :=
      I.step (g' := s.gens) (d' := s.drawn) (ch := [e, it])
        (fun b hb => by
          rcases List.mem_cons.mp hb with z | z
          · subst z; exact ⟨f3, f1, f4, f5⟩
          · have z' : b = it := by simpa using z
            subst z'; exact ⟨g3, g1, g4, g5⟩)
        (fun b o _ _ hb q _ => old2 b o (nch b hb).1 (nch b hb).2 q)
        (fun b o _ _ hb q _ => ⟨o.slots, old2 b o (nch b hb).1 (nch b hb).2 q⟩)
        (fun b o _ q n => by rw [upd_ne (Nat.ne_of_lt (Heap.lt_size q))]; exact n)
        (fun b o hb q => ⟨o, old2 b o (nch b hb).1 (nch b hb).2 q⟩)
        (fun b ys q => by rw [upd_ne (ne_of_none q hn)]; exact q)
        (fun b o u q => by rw [upd_ne (ne_of_none q hn)]; exact q)
        (fun b ps q => ⟨#[], by rw [upd_ne (ne_of_none q hn), q]; simp⟩)
        (fun m hm => by
          obtain ⟨o, es, ep, ho, r⟩ := hm
          exact ⟨o, es, ep, old2 _ o (Ne.symm f1) (Ne.symm g1) ho, r⟩) hok2 I.bare
    refine ⟨.ref s.heap.objs.size, _, I2, rfl, ⟨_, x, rfl, hn, rfl, fun ys hy => by rw [I.list_inj hy hq]; exact hx⟩, ⟨⟨u, ?_⟩, ?_⟩, fun b hb => ?_⟩
    · have e3 : ((i + 1 : Nat) : Int) = (i : Int) + 1 := by omega
      rw [e3]; exact he2
    · exact hit1.extBut hs2'.extBut (Ne.symm hne)
    · have hbz : b ≠ s.heap.objs.size := by
        rcases List.mem_cons.mp hb with z | z
        · subst z; exact Ne.symm hTe
        · have z' : b = it := by simpa using z
          subst z'
          obtain ⟨o, q, _⟩ := hit
          exact Nat.ne_of_lt (Heap.lt_size q)
      rw [upd_ne hbz]
      exact (hf b hb).1
  done := by
    intro X hP hw hK hc i pins s σ H E I hf st hg
    subst hP hw hK
    obtain ⟨xs, hq, hx⟩ := hg
    obtain ⟨its, rv, p, hz⟩ := I.list hq
    obtain ⟨⟨old, he⟩, hit⟩ := st
    obtain ⟨f0, f1, f2, f3, f4, f5⟩ := hf it (by simp)
    have hl := rv.length
    exact wpAny_pyNext_enum_end (I.ok.hd hc) he hit p.isList (by simp; omega) fun h' eb => ⟨rfl, I.turned (t' := s.toks) (fun b o hb z => eb b o hb z) f0 f1 f3 f4 f5⟩
  self := fun _ _ _ _ _ st h => by
    obtain ⟨⟨old, he⟩, _⟩ := st
    exact wpAny_pyIter_enum he h
section
variable {X : Cx}
def iEnum (K : PySem.W.Frag) (ta : TA) : TI := fun σ H R => ta σ H fun vs H1 => ∃ a, vs = [.ref a] ∧ (∃ xs, SqL K H1 a xs) ∧ R (Ite K a) H1
theorem pi_enum {l : Expr} {ta : TA} {elts : List Expr} {kk : Nat} {tpos p pos : Pos} (hg : Gl X "enumerate") (hm : X.mg "enumerate" = none) (ha : PA X [l] ta) (hs : starEach [l] X.env = [(false, eval l X.env)] := by rfl) :
    PI X (.Tuple elts kk tpos) (.Call (.Name "enumerate" p) [l] [] pos) (iEnum X.K ta) := by
  intro pins s σ H R I h
  refine Call_ (ld_blt I hg hm boot_enumerate (PyProof.Rows.callWith_type1 (thn (ha pos pins s σ H _ I h) fun us s1 ⟨vs, H1, I1, r1, q1⟩ => ?_) hs rfl))
  obtain ⟨a, rfl, ⟨xs, hq⟩, q⟩ := q1
  obtain ⟨u, rfl, rx⟩ := vals1 r1
  cases rx
  obtain ⟨its, rv, p, hz⟩ := I1.list hq
  refine call_enumerate_list p.isList fun h' he hit hz' hk => ?_
  refine wpAny_pyIter_enum he ?_
  have I2 : Inv X pins σ H1 { s1 with heap := h' } := I1.kept (t' := s1.toks) hk
  refine ⟨s1.heap.objs.size + 1, [s1.heap.objs.size + 1, s1.heap.objs.size], _, _, H1, rfl, I2, turn_enum a _ _ (Nat.succ_ne_self _), ⟨⟨_, he⟩, hit⟩, fun b hb => ?_, q⟩
  have e : s1.heap.objs.size ≤ b := by
    rcases List.mem_cons.mp hb with z | z
    · rw [z]; exact Nat.le_succ _
    · have z' : b = s1.heap.objs.size := by simpa using z
      rw [z']; exact Nat.le_refl _
  exact I1.fpOk e (I1.hok.fresh e)
end
theorem for_enum {K : PySem.W.Frag} {a : Addr} {xs : List V} {g : TG} {tb : TS} {D : Ends} {σ : St} {H : Hp} (Pv : Nat → St → Hp → Prop) (h0 : Pv 0 σ H) (hl : ∀ i σ H, i ≤ xs.length → Pv i σ H → SqL K H a xs)
    (hs : ∀ i x σ H p, xs[i]? = some x → Pv i σ H → H p = none → g (.ref p) σ (upd H p (.tup [.int (i : Int), x])) fun σ2 H2 => tb { D with nx := Pv (i + 1), ct := Pv (i + 1), bk := D.nx } σ2 H2) (hd : ∀ σ H, Pv xs.length σ H → D.nx σ H) :
    ∃ W : Nat → Nat → St → Hp → Prop, (∃ m, W 0 m σ H) ∧ ∀ i m σ H, W i m σ H →
      ((Ite K a).stop i H ∧ D.nx σ H) ∨ ((Ite K a).go i H ∧ ∃ N : St → Hp → Prop, (∀ σ' H', N σ' H' → ∃ m', m' < m ∧ W (i + 1) m' σ' H') ∧ ∀ x H', (Ite K a).yld i H x H' → g x σ H' fun σ2 H2 => tb { D with nx := N, ct := N, bk := D.nx } σ2 H2) := by
  refine ⟨fun i m σ H => m = xs.length - i ∧ i ≤ xs.length ∧ Pv i σ H, ⟨xs.length, by simp, Nat.zero_le _, h0⟩, ?_⟩
  rintro i m σ H ⟨rfl, hi, p⟩
  have q := hl i σ H hi p
  by_cases hlt : i < xs.length
  · refine .inr ⟨⟨xs, xs[i], q, by simp [hlt]⟩, Pv (i + 1), fun σ' H' p' => ⟨xs.length - (i + 1), by omega, rfl, hlt, p'⟩, fun x H' y => ?_⟩
    obtain ⟨pp, v, rfl, hn, rfl, y⟩ := y
    exact hs i v σ _ pp (y xs q) p hn
  · have e : i = xs.length := by omega
    subst e
    exact .inl ⟨⟨xs, q, Nat.le_refl _⟩, hd σ H p⟩
end L3

set_option Elab.async false
set_option linter.all false
set_option maxRecDepth 100000
set_option maxHeartbeats 4000000
namespace L3
open PySem PySem.Spec PyProof.Rows L2

section
variable {P : Program} {w : World} {A : Around} {R : Result → Shared → Prop}
end
section
variable {X : Cx}
end
end L3

set_option Elab.async false
set_option linter.all false
set_option maxRecDepth 100000
set_option maxHeartbeats 4000000
namespace L3
open PySem PySem.Spec PyProof.Rows L2

def clStep (env : Env) (cs : List (Str × Addr)) (x : Str × NameKind) : List (Str × Addr) := if x.2 = .free then (x.1, (env.cells.lookup x.1).getD 0) :: cs else cs
def clOf (env : Env) (names : List (Str × NameKind)) : List (Str × Addr) := names.foldl (clStep env) []
theorem forIn_fold {α β : Type} {f : α → β → Sem (ForInStep β)} (g : β → α → β) : ∀ (l : List α) (b : β), (∀ x ∈ l, ∀ c, f x c = pure (.yield (g c x))) → forIn l b f = pure (l.foldl g b)
  | [], _, _ => rfl
  | x :: l, b, h => by
    rw [List.forIn_cons, h x List.mem_cons_self, pure_bind]
    exact forIn_fold g l (g b x) fun y hy => h y (List.mem_cons_of_mem _ hy)
theorem closure_is {scope : Scope} {env : Env} (h : ∀ y ∈ scope.names, y.2 = .free → ∃ c, env.cells.lookup y.1 = some c) : closureFor scope env = pure (clOf env scope.names) := by
  simp only [closureFor]
  rw [forIn_fold (clStep env) scope.names [] fun x hx cs => ?_]
  · rfl
  · obtain ⟨n, kind⟩ := x
    by_cases hk : kind = .free
    · obtain ⟨c, hc⟩ := h _ hx hk
      have hc' : env.cells.lookup n = some c := hc
      have e1 : (kind == NameKind.free) = true := by rw [hk]; rfl
      have e2 : clStep env cs (n, kind) = (n, c) :: cs := by
        unfold clStep
        rw [if_pos hk]
        show (n, (env.cells.lookup n).getD 0) :: cs = _
        rw [hc']; rfl
      rw [e2]
      simp only [e1, if_true, cellOf, hc', pure_bind]
    · have e1 : (kind == NameKind.free) = false := by simpa using hk
      have e2 : clStep env cs (n, kind) = cs := by
        unfold clStep
        rw [if_neg hk]
      rw [e2]
      simp only [e1, Bool.false_eq_true, if_false]
theorem cl_sub {env : Env} : ∀ (names : List (Str × NameKind)) (cs : List (Str × Addr)), (∀ y ∈ names, y.2 = .free → ∃ c, env.cells.lookup y.1 = some c) → (∀ x c, cs.lookup x = some c → env.cells.lookup x = some c) →
    ∀ x c, (names.foldl (clStep env) cs).lookup x = some c → env.cells.lookup x = some c
  | [], _, _, hc => hc
  | y :: r, cs, h, hc => by
    refine cl_sub r (clStep env cs y) (fun z hz => h z (List.mem_cons_of_mem _ hz)) fun x c e => ?_
    unfold clStep at e
    split at e
    · rename_i hk
      obtain ⟨d, hd⟩ := h y List.mem_cons_self hk
      rw [List.lookup_cons] at e
      split at e
      · rename_i hx
        have hx' : x = y.1 := by simpa using hx
        rw [hd] at e
        cases e
        rw [hx']; exact hd
      · exact hc x c e
    · exact hc x c e
theorem cl_keep {env : Env} : ∀ (names : List (Str × NameKind)) (cs : List (Str × Addr)) (x : Str), (∃ c, cs.lookup x = some c) → ∃ c, (names.foldl (clStep env) cs).lookup x = some c
  | [], _, _, h => h
  | y :: r, cs, x, ⟨c, h⟩ => by
    refine cl_keep r (clStep env cs y) x ?_
    unfold clStep
    split
    · rw [List.lookup_cons]
      split
      · exact ⟨_, rfl⟩
      · exact ⟨c, h⟩
    · exact ⟨c, h⟩
theorem cl_has {env : Env} : ∀ (names : List (Str × NameKind)) (cs : List (Str × Addr)) (y : Str × NameKind), y ∈ names → y.2 = .free → ∃ c, (names.foldl (clStep env) cs).lookup y.1 = some c
  | [], _, y, hy, _ => absurd hy (by simp)
  | z :: r, cs, y, hy, hk => by
    rcases List.mem_cons.mp hy with e | e
    · subst e
      refine cl_keep r _ y.1 ?_
      unfold clStep
      rw [if_pos hk, List.lookup_cons]
      simp
    · exact cl_has r _ y e hk
theorem relabel_free {env : Env} : ∀ {names : List (Str × NameKind)} {x : Str}, names.lookup x = some .free →
    (names.map fun (n, k) => if (k == NameKind.free && env.scope.kind == .function && env.kindOf n == some .cell) then (n, NameKind.cell) else (n, k)).lookup x = some .cell ∨
    (names.map fun (n, k) => if (k == NameKind.free && env.scope.kind == .function && env.kindOf n == some .cell) then (n, NameKind.cell) else (n, k)).lookup x = some .free
  | [], _, h => by simp at h
  | (n, k) :: r, x, h => by
    have ih := @relabel_free env r x
    show List.lookup x ((if (k == NameKind.free && env.scope.kind == .function && env.kindOf n == some .cell) = true then (n, NameKind.cell) else (n, k)) :: _) = _ ∨ List.lookup x ((if (k == NameKind.free && env.scope.kind == .function && env.kindOf n == some .cell) = true then (n, NameKind.cell) else (n, k)) :: _) = _
    cases hx : x == n with
    | true =>
      simp only [List.lookup_cons, hx] at h
      cases h
      by_cases hc : (NameKind.free == NameKind.free && env.scope.kind == .function && env.kindOf n == some .cell) = true
      · rw [if_pos hc]; simp only [List.lookup_cons, hx]; exact .inl trivial
      · rw [if_neg hc]; simp only [List.lookup_cons, hx]; exact .inr trivial
    | false =>
      simp only [List.lookup_cons, hx] at h
      by_cases hc : (k == NameKind.free && env.scope.kind == .function && env.kindOf n == some .cell) = true
      · rw [if_pos hc]; simp only [List.lookup_cons, hx]; exact ih h
      · rw [if_neg hc]; simp only [List.lookup_cons, hx]; exact ih h
theorem relabel_of {env : Env} : ∀ {names : List (Str × NameKind)} {x : Str}, (∀ y ∈ names, y.2 ≠ .cell) →
    ((names.map fun (n, k) => if (k == NameKind.free && env.scope.kind == .function && env.kindOf n == some .cell) then (n, NameKind.cell) else (n, k)).lookup x = some .cell ∨
    (names.map fun (n, k) => if (k == NameKind.free && env.scope.kind == .function && env.kindOf n == some .cell) then (n, NameKind.cell) else (n, k)).lookup x = some .free) → ∃ y ∈ names, y.1 = x ∧ y.2 = .free
  | [], _, _, h => by simp at h
  | (n, k) :: r, x, hc0, h => by
    have ih := @relabel_of env r x fun y hy => hc0 y (List.mem_cons_of_mem _ hy)
    have hk : k ≠ .cell := hc0 (n, k) List.mem_cons_self
    cases hx : x == n with
    | true =>
      have hx' : x = n := by simpa using hx
      refine ⟨(n, k), List.mem_cons_self, hx'.symm, ?_⟩
      by_cases hf : k = .free
      · exact hf
      · have e1 : (k == NameKind.free) = false := by simpa using hf
        exfalso
        have h' : List.lookup x ((if (k == NameKind.free && env.scope.kind == .function && env.kindOf n == some .cell) = true then (n, NameKind.cell) else (n, k)) :: _) = some .cell ∨ List.lookup x ((if (k == NameKind.free && env.scope.kind == .function && env.kindOf n == some .cell) = true then (n, NameKind.cell) else (n, k)) :: _) = some .free := h
        simp only [e1, Bool.false_and, Bool.false_eq_true, if_false, List.lookup_cons, hx] at h'
        rcases h' with z | z
        · exact hk (Option.some.inj z)
        · exact hf (Option.some.inj z)
    | false =>
      have h' : List.lookup x ((if (k == NameKind.free && env.scope.kind == .function && env.kindOf n == some .cell) = true then (n, NameKind.cell) else (n, k)) :: _) = some .cell ∨ List.lookup x ((if (k == NameKind.free && env.scope.kind == .function && env.kindOf n == some .cell) = true then (n, NameKind.cell) else (n, k)) :: _) = some .free := h
      by_cases hc : (k == NameKind.free && env.scope.kind == .function && env.kindOf n == some .cell) = true
      · rw [if_pos hc] at h'
        simp only [List.lookup_cons, hx] at h'
        obtain ⟨y, hy, r1, r2⟩ := ih h'
        exact ⟨y, List.mem_cons_of_mem _ hy, r1, r2⟩
      · rw [if_neg hc] at h'
        simp only [List.lookup_cons, hx] at h'
        obtain ⟨y, hy, r1, r2⟩ := ih h'
        exact ⟨y, List.mem_cons_of_mem _ hy, r1, r2⟩

def cxComp (X : Cx) (scope : Scope) (NB : List Str) (C : Addr) (s₂ : Shared) (H : Hp) (fp : List Addr) : Cx :=
  { X with N := NB, s₀ := s₂, H₀ := H, env := compEnvC scope (clOf X.env scope.names) C X.env, outer := X.stack, ex := fp, fn := fun _ => false, pn := [], xe := fun _ _ => False }
def blk (src : List (Option Nat)) (σ : St) : St := src.map fun o => o.bind fun i => (σ[i]?).join
def chk (N : List Str) (scope : Scope) (NB : List Str) (src : List (Option Nat)) : Bool :=
  decide (NB.length = src.length) && (NB.zip src).all fun p => match p.2 with
    | none => true
    | some i => decide (N[i]? = some p.1) && decide (scope.names.lookup p.1 = some .free)
def chkS (scope sc : Scope) : Bool :=
  decide (scope.kind = .function) && scope.names.all fun y => decide (y.2 ≠ .cell) && (decide (y.2 ≠ .local) || decide (scope.names.lookup y.1 = some .local)) &&
    (decide (y.2 ≠ .free) || (decide (sc.names.lookup y.1 = some .cell) || decide (sc.names.lookup y.1 = some .free)))

def PIf (X : Cx) (ifs : List Expr) (t : TT) : Prop :=
  ∀ (pins : List (Addr × Obj)) (s : Shared) (σ : St) (H : Hp) (Q : Bool → Hp → Prop), Inv X pins σ H s → t σ H Q →
    wpAny (model X.prog X.w) X.A (forIn ifs true fun c r => if r = true then do let ok ← isTrue c X.env (eval c X.env); pure (ForInStep.yield ok) else pure (ForInStep.yield r)) (TP X pins σ Q) X.xe s
theorem pif_nil {X : Cx} : PIf X [] (fun _ H Q => Q true H) := fun _ _ _ H _ I h => wpAny_tests_nil ⟨H, I, h⟩
theorem pif_one {X : Cx} {c : Expr} {t : TT} (h : PT X c t) : PIf X [c] t := fun pins s σ H Q I q => wpAny_tests_one (h pins s σ H Q I q)

def CompW (J : It) (g : TG) (tt : TT) (te : TE) (Q : VK) (D : Addr) (σ₀ : St) (H₀ : Hp) : Prop :=
  ∃ W : Nat → Nat → List V → St → Hp → Prop, (∃ m, W 0 m [] σ₀ (upd H₀ D (.lst []))) ∧
    ∀ i m ys σ' H', W i m ys σ' H' →
      ((J.stop i H' ∧ Q (.ref D) H') ∨ (J.go i H' ∧ ∃ M : List V → St → Hp → Prop, (∀ ys' σ3 H3, M ys' σ3 H3 → ∃ m', m' < m ∧ W (i + 1) m' ys' σ3 H3) ∧ ∀ x H2, J.yld i H' x H2 → g x σ' H2 fun σ3 H3 => tt σ3 H3 fun b H4 =>
        if b = true then te σ3 H4 fun v H5 => H5 D = some (.lst ys) ∧ ys.length < sizeLine ∧ M (ys ++ [v]) σ3 (upd H5 D (.lst (ys ++ [v])))
        else M ys σ3 H4))
def tComp (src : List (Option Nat)) (wi : TI) (g : TG) (tt : TT) (te : TE) : TE := fun σ H Q => wi σ H fun J H1 => ∀ D, H1 D = none → CompW J g tt te Q D (blk src σ) H1

section
variable {X : Cx} {elt tg iter : Expr} {ifs : List Expr} {scope sc : Scope} {N NB : List Str} {src : List (Option Nat)} {wi : TI} {g : TG} {tt : TT} {te : TE} {pos : Pos}

theorem chkS_of (h : chkS scope sc = true) : scope.kind = .function ∧ (∀ y ∈ scope.names, y.2 ≠ .cell) ∧ (∀ y ∈ scope.names, y.2 = .local → scope.names.lookup y.1 = some .local) ∧
    ∀ y ∈ scope.names, y.2 = .free → sc.names.lookup y.1 = some .cell ∨ sc.names.lookup y.1 = some .free := by
  unfold chkS at h
  rw [Bool.and_eq_true, decide_eq_true_iff, List.all_eq_true] at h
  obtain ⟨h1, h2⟩ := h
  refine ⟨h1, fun y hy => ?_, fun y hy z => ?_, fun y hy z => ?_⟩
  · have := h2 y hy
    simp only [Bool.and_eq_true, decide_eq_true_iff] at this
    exact this.1.1
  · have := h2 y hy
    simp only [Bool.and_eq_true, Bool.or_eq_true, decide_eq_true_iff] at this
    rcases this.1.2 with q | q
    · exact absurd z q
    · exact q
  · have := h2 y hy
    simp only [Bool.and_eq_true, Bool.or_eq_true, decide_eq_true_iff] at this
    rcases this.2 with q | q
    · exact absurd z q
    · exact q
theorem chk_of (h : chk N scope NB src = true) : NB.length = src.length ∧ ∀ (j i : Nat) (x : Str), NB[j]? = some x → src[j]? = some (some i) → N[i]? = some x ∧ scope.names.lookup x = some .free := by
  unfold chk at h
  rw [Bool.and_eq_true, decide_eq_true_iff, List.all_eq_true] at h
  refine ⟨h.1, fun j i x e1 e2 => ?_⟩
  have hm : (x, some i) ∈ NB.zip src := List.mem_of_getElem? (i := j) (by rw [List.getElem?_zip_eq_some]; exact ⟨e1, e2⟩)
  have := h.2 _ hm
  simp only [Bool.and_eq_true, decide_eq_true_iff] at this
  exact this

theorem comp_core (hS : chkS scope sc = true) (hN : chk N scope NB src = true) (hsc : X.env.scope = sc) (hXN : X.N = N) (hc : X.calm = true)
    (hg : ∀ C s₂ H fp, PG (cxComp X scope NB C s₂ H fp) tg g) (hi : ∀ C s₂ H fp, PIf (cxComp X scope NB C s₂ H fp) ifs tt) (he : ∀ C s₂ H fp, PE (cxComp X scope NB C s₂ H fp) elt te)
    {pins : List (Addr × Obj)} {σ : St} {H2 : Hp} {s2 : Shared} {it : Addr} {fp : List Addr} {tn : Nat → Heap → Prop} {J : It} {Q : VK} {E : Value → Shared → Prop}
    (I2 : Inv X pins σ H2 s2) (T : Turn X.prog X.w X.K tg J fp it tn) (st2 : tn 0 s2.heap) (f2 : ∀ b ∈ fp, FpOk X pins H2 b) (q : ∀ D, H2 D = none → CompW J g tt te Q D (blk src σ) H2)
    {RR : Value → Addr → Result → Shared → Prop}
    (hRR : ∀ (D C : Addr) (s' : Shared) (H' : Hp), Inv X pins σ H' s' → Q (.ref D) H' → (∃ m, s'.heap.Ns C m) → H' C = none → C ≠ X.env.locals → X.s₀.heap.objs.size ≤ C → (∀ x c, X.env.cells.lookup x = some c → c ≠ C) → (∀ p ∈ X.pn ++ pins, p.1 ≠ C) → RR (.ref D) C (.ok .next) s') :
    wpAny (model X.prog X.w) X.A (newList []) (fun acc s₃ => wpAny (model X.prog X.w) X.A (newFunctionEnv scope X.env.globals (clOf X.env scope.names) [] X.env.qual none .none (some X.env)) (fun cenv s₄ =>
      codeAny (model X.prog X.w) X.A (.compStart (.ListComp elt [⟨tg, iter, ifs, 0⟩] scope pos) 0 (.ref it) acc { cenv with scope := relabel scope X.env }) (RR acc cenv.locals) s₄) E s₃) E s2 := by
  obtain ⟨hkind, hcell, hnames, hfree⟩ := chkS_of hS
  obtain ⟨hlen, hsrc⟩ := chk_of hN
  subst hsc hXN
  have hcl0 : ∀ y ∈ scope.names, y.2 = .free → ∃ c, X.env.cells.lookup y.1 = some c := fun y hy z => I2.ok.has y.1 (hfree y hy z)
  have clsub : ∀ x c, (clOf X.env scope.names).lookup x = some c → X.env.cells.lookup x = some c := cl_sub scope.names [] hcl0 (fun x c e => by cases e)
  refine wpAny_newObj_type (wpAny_newFunctionEnv hcell (by intro y hy; simp at hy) (fun h₁ hns₁ hsb₁ => ?_) hkind)
  dsimp only at hns₁ hsb₁ ⊢
  generalize hH3 : s2.heap.push { cls := .type "list", dict := none, data := .seq ([] : List Value).toArray } = H3 at hns₁ hsb₁ ⊢
  have hC : H3.objs.size = s2.heap.objs.size + 1 := by rw [← hH3, Heap.size_push]
  have hDC : s2.heap.objs.size ≠ H3.objs.size := by rw [hC]; exact Nat.ne_of_lt (Nat.lt_succ_self _)
  have old : ∀ b o, s2.heap.get? b = some o → h₁.get? b = some o := fun b o e => by
    have hb := Heap.lt_size e
    exact hsb₁.extBut b o (by rw [hC]; exact Nat.ne_of_lt (Nat.lt_succ_of_lt hb)) (Heap.get?_push_of_some _ (hH3 ▸ Heap.get?_push_of_some _ e))
  have hacc : h₁.get? s2.heap.objs.size = some { cls := .type "list", data := .seq ([] : List Value).toArray } :=
    hsb₁.extBut _ _ hDC (Heap.get?_push_of_some _ (hH3 ▸ Heap.get?_push_size _ rfl))
  have hDn : H2 s2.heap.objs.size = none := I2.hok.fresh (Nat.le_refl _)
  have hCn : H2 H3.objs.size = none := I2.hok.fresh (by rw [hC]; exact Nat.le_succ _)
  have fpl : ∀ b ∈ fp, b < s2.heap.objs.size := fun b hb => by
    obtain ⟨o, e, _⟩ := T.obj _ _ st2 b hb
    exact Heap.lt_size e
  have cellLt : ∀ x c, X.env.cells.lookup x = some c → c < s2.heap.objs.size := fun x c e => by
    obtain ⟨v, z⟩ := I2.cell x c e
    exact z.lt
  have cneC : ∀ x c, X.env.cells.lookup x = some c → c ≠ H3.objs.size := fun x c e => by
    rw [hC]
    exact Nat.ne_of_lt (Nat.lt_succ_of_lt (cellLt x c e))
  let Y : Cx := cxComp X scope NB H3.objs.size s2 H2 fp
  have okY : Y.Ok := {
    mod := I2.ok.mod
    kind := hkind
    glob := I2.ok.glob
    blt := I2.ok.blt
    above := by show s2.heap.objs.size ≤ H3.objs.size; rw [hC]; exact Nat.le_succ _
    inj := fun x y c e1 e2 => I2.ok.inj x y c (clsub x c e1) (clsub y c e2)
    has := fun x hx => by
      obtain ⟨y, hy, rfl, hyf⟩ := relabel_of (env := X.env) hcell hx
      exact cl_has scope.names [] y hy hyf
    cab := fun x c z _ => by cases z
    hd := I2.ok.hd
    frames := I2.ok.frames
    stk := .inl rfl
    exf := fun b hb => ⟨by show b ≠ H3.objs.size; rw [hC]; exact Nat.ne_of_lt (Nat.lt_succ_of_lt (fpl b hb)), fun x c e => (f2 b hb).2.2.2.2.1 x c (clsub x c e)⟩
    bs := I2.bs
    bsz := Nat.le_trans I2.ok.bsz I2.sz
    noex := fun b o e hb => by
      rcases (f2 b hb).2.2.2.1 with z | z
      · exact I2.ok.noex b o e z
      · exact absurd (Nat.lt_of_lt_of_le (Heap.lt_size (I2.ok.bs b o e).1) z) (Nat.lt_irrefl _)
    exfs := fun b hb z => by
      rcases List.mem_cons.mp (I2.stkSub b z) with y | y
      · exact (f2 b hb).2.1 y
      · exact (f2 b hb).2.2.1 y
    funs := I2.stack
    frf := I2.stkFree }
  have IY0 : Inv Y [] (blk src σ) (upd H2 s2.heap.objs.size (.lst [])) { s2 with heap := h₁, toks := s2.toks + ([] : List (Str × Value)).length } := {
    ok := okY
    os := rfl
    bare := I2.bare
    base := Un.laid old (Nat.le_refl _) hDn
    loc := by
      refine ⟨_, hns₁, fun j x v e1 e2 e3 => ?_⟩
      have e2' : (src.map fun o => o.bind fun i => (σ[i]?).join)[j]? = some (some v) := e2
      rw [List.getElem?_map] at e2'
      cases hj : src[j]? with
      | none => rw [hj] at e2'; cases e2'
      | some o =>
        rw [hj] at e2'
        have e4 : (o.bind fun i => (σ[i]?).join) = some v := Option.some.inj e2'
        cases o with
        | none => cases e4
        | some i =>
          have e5 : (σ[i]?).join = some v := e4
          obtain ⟨hNi, hlk⟩ := hsrc j i x e1 hj
          have e6 : σ[i]? = some (some v) := by
            cases hs : σ[i]? with
            | none => rw [hs] at e5; cases e5
            | some w' => rw [hs] at e5; have : w' = some v := e5; rw [this]
          obtain ⟨m, hn, hl⟩ := I2.loc
          have hkx := hfree (x, .free) (PySem.mem_of_lookup hlk) rfl
          obtain ⟨u, ru, lk⟩ := hl i x v hNi e6 (hkx.elim (fun z => .inr (.inl z)) fun z => .inr (.inr z))
          refine ⟨u, ru, ?_⟩
          rcases lk with ⟨k, _⟩ | ⟨k, c, ec, ic⟩
          · exfalso
            have k' : X.env.scope.names.lookup x = some .local := k
            rcases hkx with z | z
            · rw [k'] at z; cases z
            · rw [k'] at z; cases z
          · obtain ⟨c', hc'⟩ := cl_has (env := X.env) scope.names [] (x, .free) (PySem.mem_of_lookup hlk) rfl
            have hcc : c' = c := Option.some.inj ((clsub x c' hc').symm.trans ec)
            subst hcc
            refine .inr ⟨relabel_free (env := X.env) hlk, c', hc', ?_⟩
            obtain ⟨o, ho, hd⟩ := ic
            exact ⟨o, old c' o ho, hd⟩
    cell := fun x c e => by
      obtain ⟨v, o, ho, hd⟩ := I2.cell x c (clsub x c e)
      exact ⟨v, o, old c o ho, hd⟩
    free := by
      show upd H2 s2.heap.objs.size (.lst []) H3.objs.size = none
      rw [upd_ne (Ne.symm hDC)]; exact hCn
    freeC := fun x c e => by
      have := cellLt x c (clsub x c e)
      rw [upd_ne (Nat.ne_of_lt this)]
      exact I2.freeC x c (clsub x c e)
    pin := fun p hp => absurd (show p ∈ ([] : List (Addr × Obj)) from hp) (by simp)
    hok := I2.hok.laid old (Nat.le_refl _) ⟨Nat.zero_le _, [], 0, .nil, hacc⟩
    len := by show (src.map _).length = NB.length; rw [List.length_map]; exact hlen.symm }
  have statY : ∀ {H' : Hp}, (∀ b ∈ fp, H' b = none) → ∀ b ∈ fp, FpOk Y [] H' b := fun hn b hb =>
    ⟨hn b hb, (okY.exf b hb).1, okY.exfs b hb, .inl hb, (okY.exf b hb).2, fun p hp => absurd (show p ∈ ([] : List (Addr × Obj)) from hp) (by simp)⟩
  have back : ∀ {pl : List (Addr × Obj)} {σ' : St} {H' : Hp} {s' : Shared}, Inv Y pl σ' H' s' → Inv X pins σ H' s' := fun {pl σ' H' s'} IY =>
    I2.call' (ch := fp) IY.os IY.base IY.hok IY.bare fun b hb => ⟨(f2 b hb).2.2.2.1, (f2 b hb).2.1, (f2 b hb).2.2.2.2.1, (f2 b hb).2.2.2.2.2⟩
  obtain ⟨W, ⟨m0, w0⟩, turn⟩ := q s2.heap.objs.size hDn
  have loop : ∀ s₃ : Shared, s₃ = { s2 with heap := h₁, toks := s2.toks + ([] : List (Str × Value)).length } →
      codeAny (model X.prog X.w) X.A (.compLoop (.ListComp elt [⟨tg, iter, ifs, 0⟩] scope pos) 0 (.ref it) (.ref s2.heap.objs.size) Y.env) (RR (.ref s2.heap.objs.size) H3.objs.size) s₃ := by
    rintro s₃ rfl
    refine codeAny_loop rfl (fun n s' => ∃ i ys σ' H', Inv Y [] σ' H' s' ∧ tn i s'.heap ∧ (∀ b ∈ fp, H' b = none) ∧ W i n ys σ' H') (fun n s3 hI => ?_) m0
      ⟨0, [], _, _, IY0, T.keep _ _ _ st2 (fun b _ o e => old b o e), fun b hb => by rw [upd_ne (Nat.ne_of_lt (fpl b hb))]; exact (f2 b hb).1, w0⟩
    obtain ⟨i, ys, σ3, H4, I3, st3, fr3, w3⟩ := hI
    show wpAny _ X.A ((compTurn (.ListComp elt [⟨tg, iter, ifs, 0⟩] scope pos) 0 (.ref it) (.ref s2.heap.objs.size) Y.env).onRaise (fun x => do noteFrame x Y.env; theTreesLotGoes x)) _ _ s3
    refine wpAny_noted ?_
    rw [compTurn_list]
    rcases turn i n ys σ3 H4 w3 with ⟨stop, qn⟩ | ⟨go, M, hM, step⟩
    · refine wpAny_bind (wpAny_standAt (wpAny_bind (thn (T.done Y rfl rfl rfl hc i [] s3 σ3 H4 _ I3 (statY fr3) st3 stop) fun r s4 ⟨hr, I4⟩ => ?_)))
      subst hr
      refine wpAny_pure ?_
      obtain ⟨m, hm, _⟩ := I4.loc
      refine hRR _ _ s4 H4 (back I4) qn ⟨m, hm⟩ I4.free ?_ ?_ cneC fun p hp => ?_
      · show H3.objs.size ≠ X.env.locals
        rw [hC]
        exact Nat.ne_of_gt (Nat.lt_succ_of_lt I2.lt)
      · rw [hC]
        exact Nat.le_succ_of_le I2.sz
      · rw [hC]
        exact Nat.ne_of_lt (Nat.lt_succ_of_lt (Heap.lt_size (I2.pin p hp).1))
    · refine wpAny_bind (wpAny_standAt (wpAny_bind (thn (T.item Y rfl rfl rfl hc i [] s3 σ3 H4 _ I3 (statY fr3) st3 go) fun r s4 ⟨u, hr, h4⟩ => ?_)))
      subst hr
      refine wpAny_bind (thn h4 fun _ s5 ⟨x, H5, I5, r5, y5, st5, fr5⟩ => ?_)
      have I5' := I5.pinned (statY fr5) (T.obj _ _ st5)
      have again : ∀ {σ7 : St} {H7 : Hp} {s7 : Shared} {ys' : List V}, Inv Y ([] ++ pinsAt fp s5.heap) σ7 H7 s7 → (∃ m', m' < n ∧ W (i + 1) m' ys' σ7 H7) →
          ∃ m, m < n ∧ ∃ i ys σ' H', Inv Y [] σ' H' s7 ∧ tn i s7.heap ∧ (∀ b ∈ fp, H' b = none) ∧ W i m ys σ' H' := fun {σ7 H7 s7 ys'} I7 ⟨m', hm, w7⟩ => by
        refine ⟨m', hm, i + 1, ys', σ7, H7, I7.unpinned, T.keep _ _ _ st5 fun b hb o e => (I7.pin (b, o) (List.mem_append_right _ (List.mem_append_right _ (mem_pinsAt hb e)))).1, fun b hb => ?_, w7⟩
        obtain ⟨o, e, d⟩ := T.obj _ _ st5 b hb
        exact (I7.pin (b, o) (List.mem_append_right _ (List.mem_append_right _ (mem_pinsAt hb e)))).2.1
      refine wpAny_bind (wpAny_mono (hg H3.objs.size s2 H2 fp _ s5 σ3 H5 x u _ I5' r5 (step x H5 y5)) (fun _ s6 ⟨σ6, H6, I6, q6⟩ => ?_) fun _ _ z => z.elim)
      refine wpAny_bind (wpAny_mono (hi H3.objs.size s2 H2 fp _ s6 σ6 H6 _ I6 q6) (fun ok s7 ⟨H7, I7, q7⟩ => ?_) fun _ _ z => z.elim)
      cases ok with
      | false =>
        exact wpAny_pure ⟨rfl, again I7 (hM _ _ _ (by simpa using q7))⟩
      | true =>
        refine wpAny_bind (wpAny_bind (wpAny_mono (he H3.objs.size s2 H2 fp _ s7 σ6 H7 _ I7 (by simpa using q7)) (fun v s8 h8 => ?_) fun _ _ z => z.elim))
        obtain ⟨y, H8, I8, r8, hD8, hz8, q8⟩ := h8
        refine wpAny_bind (wpAny_mono (mt_append (X := Y) _ s8 σ6 H8 (.ref s2.heap.objs.size) [y] (.ref s2.heap.objs.size) [v] (fun _ H9 => H9 = upd H8 s2.heap.objs.size (.lst (ys ++ [y]))) I8 rfl (.cons r8 .nil) ⟨_, ys, y, rfl, rfl, hD8, hz8, rfl⟩)
          (fun _ s9 ⟨_, H9, I9, _, e9⟩ => ?_) fun _ _ z => z.elim)
        subst e9
        exact wpAny_pure (wpAny_pure ⟨rfl, again I9 (hM _ _ _ q8)⟩)
  exact codeAny_compStart_list (loop _ rfl) (T.self _ 0 _ _ _ (T.keep _ _ _ st2 fun b _ o e => old b o e) (loop _ rfl))

theorem pe_comp (N : List Str) (NB : List Str) (src : List (Option Nat)) (sc : Scope) (hc : X.calm = true) (hit : PI X tg iter wi)
    (hg : ∀ C s₂ H fp, PG (cxComp X scope NB C s₂ H fp) tg g) (hi : ∀ C s₂ H fp, PIf (cxComp X scope NB C s₂ H fp) ifs tt) (he : ∀ C s₂ H fp, PE (cxComp X scope NB C s₂ H fp) elt te)
    (hS : chkS scope sc = true := by decide +kernel) (hN : chk N scope NB src = true := by decide +kernel) (hsc : X.env.scope = sc := by rfl) (hXN : X.N = N := by rfl)
    (hs : ∀ x, foldedSetIterable iter X.env x = pure x := by intro _; rfl) : PE X (.ListComp elt [⟨tg, iter, ifs, 0⟩] scope pos) (tComp src wi g tt te) := by
  intro pins s σ H Q I h
  obtain ⟨hkind, hcell, hnames, hfree⟩ := chkS_of hS
  rw [eval_ListComp]
  refine wpAny_comprehension_free (use := none) rfl hs (closure_is fun y hy z => I.ok.has y.1 (by have := hfree y hy z; rw [← hsc] at this; exact this)) hkind hnames (thn (hit pins s σ H _ I h) fun v s1 h1 => thn h1 fun itv s2 h2 => ?_)
  obtain ⟨it, fp, tn, J, H2, rfl, I2, T, st2, f2, q⟩ := h2
  refine comp_core hS hN hsc hXN hc hg hi he I2 T st2 f2 q (RR := fun acc C => compPost (model X.prog X.w) X.A X.xe none (EP X pins σ Q) acc C) ?_
  intro D C s' H' I' q' hm hC h1 h2 h3 h4
  obtain ⟨m, hm⟩ := hm
  exact ⟨m, hm, fun h' hs' => ⟨.ref D, H', I'.turned (t' := s'.toks) (fun b o hb e => (hs'.2 b hb).trans e) hC (Ne.symm h1 |>.symm) (.inr h2) h3 h4, rfl, q'⟩⟩
theorem ps_setC {i : Nat} {y : Str} {py spos : Pos} (N : List Str) (NB : List Str) (src : List (Option Nat)) (sc : Scope) (hc : X.calm = true) (hNd : X.N.Nodup) (hyi : X.N[i]? = some y) (hy : Loc X.env.scope y) (hit : PI X tg iter wi)
    (hg : ∀ C s₂ H fp, PG (cxComp X scope NB C s₂ H fp) tg g) (hi : ∀ C s₂ H fp, PIf (cxComp X scope NB C s₂ H fp) ifs tt) (he : ∀ C s₂ H fp, PE (cxComp X scope NB C s₂ H fp) elt te)
    (hsw : swapsWith (.ListComp elt [⟨tg, iter, ifs, 0⟩] scope pos) (some (.Name y py)) spos.line X.env = pure true := by rfl)
    (hf : X.fn y = true ∨ X.env.scope.names.lookup y = some .local := by first | exact .inl rfl | exact .inr rfl | assumption)
    (hS : chkS scope sc = true := by decide +kernel) (hN : chk N scope NB src = true := by decide +kernel) (hsc : X.env.scope = sc := by rfl) (hXN : X.N = N := by rfl)
    (hs : ∀ x, foldedSetIterable iter X.env x = pure x := by intro _; rfl) : PS X (.Assign [.Name y py] (.ListComp elt [⟨tg, iter, ifs, 0⟩] scope pos) spos) (tAsg (tComp src wi g tt te) (gName i)) := by
  intro pins s σ H D I h
  obtain ⟨hkind, hcell, hnames, hfree⟩ := chkS_of hS
  rw [exec_Assign_Name_used _ _ _ _ hsw]
  refine wpAny_bind (wpAny_standAt (wpAny_bind ?_))
  show wpAny _ X.A (do let _ ← comprehension (.ListComp elt [⟨tg, iter, ifs, 0⟩] scope pos) scope X.env _ (newList []) false (eval iter X.env) (some (assign (.Name y py) X.env))) _ _ s
  refine wpAny_bind (wpAny_mono (wpAny_comprehension_free (use := some (assign (.Name y py) X.env)) (Q := fun _ s' => SP X pins D .next s') rfl hs
    (closure_is fun z hz k => I.ok.has z.1 (by have := hfree z hz k; rw [← hsc] at this; exact this)) hkind hnames (thn (hit pins s σ H _ I h) fun v s1 h1 => thn h1 fun itv s2 h2 => ?_)) (fun _ s' hq => wpAny_pure (wpAny_pure hq)) fun _ _ e => e)
  obtain ⟨it, fp, tn, J, H2, rfl, I2, T, st2, f2, q⟩ := h2
  refine comp_core hS hN hsc hXN hc hg hi he I2 T st2 f2 q (RR := fun acc C => compPost (model X.prog X.w) X.A X.xe (some (assign (.Name y py) X.env)) (fun _ s' => SP X pins D .next s') acc C) ?_
  intro Dd C s' H' I' q' hm hC h1 h2 h3 h4
  obtain ⟨m, hm⟩ := hm
  show wpAny _ X.A (assign (.Name y py) X.env (.ref Dd)) _ _ _
  refine wpAny_assign_Name (store_ok2 (v := .ref Dd) I' hNd hyi hy rfl (fun s3 I3 hz => ?_) hf)
  obtain ⟨a, hsb, ha⟩ := hz
  have hCa : C ≠ a := by
    rcases ha with z | z
    · rw [z]; exact h1
    · exact Ne.symm (h3 _ _ z)
  refine ⟨m, hm.sameBut hsb hCa, fun h' hs' => ?_⟩
  exact ⟨_, H', I3.turned (t' := s3.toks) (fun b o hb e => (hs'.2 b hb).trans e) hC h1 (.inr h2) h3 h4, q'⟩
end
end L3
namespace L3
open PySem PySem.Spec PyProof.Rows L2
section
variable {K : PySem.W.Frag} {a : Addr} {xs : List V} {g : TG} {tt : TT} {te : TE} {Q : VK} {D : Addr} {σ : St} {H : Hp}
theorem comp_list (Pv : Nat → List V → St → Hp → Prop) (h0 : Pv 0 [] σ (upd H D (.lst []))) (hl : ∀ i ys σ H, i ≤ xs.length → Pv i ys σ H → SqL K H a xs)
    (hs : ∀ i x ys σ H, xs[i]? = some x → Pv i ys σ H → g x σ H fun σ3 H3 => tt σ3 H3 fun b H4 => if b = true then te σ3 H4 fun v H5 => H5 D = some (.lst ys) ∧ ys.length < sizeLine ∧ Pv (i + 1) (ys ++ [v]) σ3 (upd H5 D (.lst (ys ++ [v]))) else Pv (i + 1) ys σ3 H4)
    (hd : ∀ ys σ H, Pv xs.length ys σ H → Q (.ref D) H) : CompW (Itl K a) g tt te Q D σ H := by
  refine ⟨fun i m ys σ H => m = xs.length - i ∧ i ≤ xs.length ∧ Pv i ys σ H, ⟨xs.length, by simp, Nat.zero_le _, h0⟩, ?_⟩
  rintro i m ys σ H ⟨rfl, hi, p⟩
  have q := hl i ys σ H hi p
  by_cases hlt : i < xs.length
  · refine .inr ⟨⟨xs, xs[i], q, by simp [hlt]⟩, Pv (i + 1), fun ys' σ' H' p' => ⟨xs.length - (i + 1), by omega, rfl, hlt, p'⟩, fun x H' y => ?_⟩
    obtain ⟨e, y⟩ := y
    subst e
    exact hs i x ys σ _ (y xs q) p
  · have e : i = xs.length := by omega
    subst e
    exact .inl ⟨⟨xs, q, Nat.le_refl _⟩, hd ys σ H p⟩
theorem comp_range {lo : Int} {n : Nat} (Pv : Nat → List V → St → Hp → Prop) (h0 : Pv 0 [] σ (upd H D (.lst [])))
    (hs : ∀ i ys σ H, i < n → Pv i ys σ H → g (.int (lo + i)) σ H fun σ3 H3 => tt σ3 H3 fun b H4 => if b = true then te σ3 H4 fun v H5 => H5 D = some (.lst ys) ∧ ys.length < sizeLine ∧ Pv (i + 1) (ys ++ [v]) σ3 (upd H5 D (.lst (ys ++ [v]))) else Pv (i + 1) ys σ3 H4)
    (hd : ∀ ys σ H, Pv n ys σ H → Q (.ref D) H) : CompW (Itr lo n) g tt te Q D σ H := by
  refine ⟨fun i m ys σ H => m = n - i ∧ i ≤ n ∧ Pv i ys σ H, ⟨n, by simp, Nat.zero_le _, h0⟩, ?_⟩
  rintro i m ys σ H ⟨rfl, hi, p⟩
  by_cases hlt : i < n
  · refine .inr ⟨hlt, Pv (i + 1), fun ys' σ' H' p' => ⟨n - (i + 1), by omega, rfl, hlt, p'⟩, fun x H' y => ?_⟩
    obtain ⟨e, y⟩ := y
    subst e y
    exact hs i ys σ _ hlt p
  · have e : i = n := by omega
    subst e
    exact .inl ⟨Nat.le_refl _, hd ys σ H p⟩
theorem comp_enum (Pv : Nat → List V → St → Hp → Prop) (h0 : Pv 0 [] σ (upd H D (.lst []))) (hl : ∀ i ys σ H, i ≤ xs.length → Pv i ys σ H → SqL K H a xs)
    (hs : ∀ i x ys σ H p, xs[i]? = some x → Pv i ys σ H → H p = none → g (.ref p) σ (upd H p (.tup [.int (i : Int), x])) fun σ3 H3 => tt σ3 H3 fun b H4 => if b = true then te σ3 H4 fun v H5 => H5 D = some (.lst ys) ∧ ys.length < sizeLine ∧ Pv (i + 1) (ys ++ [v]) σ3 (upd H5 D (.lst (ys ++ [v]))) else Pv (i + 1) ys σ3 H4)
    (hd : ∀ ys σ H, Pv xs.length ys σ H → Q (.ref D) H) : CompW (Ite K a) g tt te Q D σ H := by
  refine ⟨fun i m ys σ H => m = xs.length - i ∧ i ≤ xs.length ∧ Pv i ys σ H, ⟨xs.length, by simp, Nat.zero_le _, h0⟩, ?_⟩
  rintro i m ys σ H ⟨rfl, hi, p⟩
  have q := hl i ys σ H hi p
  by_cases hlt : i < xs.length
  · refine .inr ⟨⟨xs, xs[i], q, by simp [hlt]⟩, Pv (i + 1), fun ys' σ' H' p' => ⟨xs.length - (i + 1), by omega, rfl, hlt, p'⟩, fun x H' y => ?_⟩
    obtain ⟨pp, v, rfl, hn, rfl, y⟩ := y
    exact hs i v ys σ _ pp (y xs q) p hn
  · have e : i = xs.length := by omega
    subst e
    exact .inl ⟨⟨xs, q, Nat.le_refl _⟩, hd ys σ H p⟩
end
end L3

set_option Elab.async false
set_option linter.all false
set_option maxRecDepth 100000
set_option maxHeartbeats 4000000
namespace L3
open PySem PySem.Spec PyProof.Rows L2

structure LLr (H : Hp) (p : Addr) (ps : List Addr) (L : List (List Int)) : Prop where
  len : ps.length = L.length
  at' : H p = some (.lst (ps.map V.ref))
  each : ∀ k : Nat, k < L.length → H (ps.getD k 0) = some (.lst ((L.getD k []).map V.int))
structure LL (H H' : Hp) (p : Addr) (ps : List Addr) (L : List (List Int)) : Prop where
  rd : LLr H' p ps L
  fresh : ∀ x ∈ ps, H x = none
  nd : ps.Nodup
  np : p ∉ ps
theorem LLr.same {H H' : Hp} {p : Addr} {ps : List Addr} {L : List (List Int)} (h : LLr H p ps L) (e : Same H H') : LLr H' p ps L := ⟨h.len, e _ _ h.at', fun k hk => e _ _ (h.each k hk)⟩
section
variable {X : Cx}
end
theorem iteC {c : Bool} {A B : Prop} (hc : c = false) (h : B) : if c = true then A else B := by rw [if_neg (by rw [hc]; decide)]; exact h
theorem same_upd {H H' : Hp} {p : Addr} {o : HO} (e : Same H H') (h : H p = none) : Same H (upd H' p o) := fun b u z => by rw [upd_ne (ne_of_none z h)]; exact e b u z
end L3

set_option Elab.async false
set_option linter.all false
set_option maxRecDepth 100000
set_option maxHeartbeats 4000000
namespace L3
open PySem PySem.Spec PyProof.Rows L2

theorem lri_nolen : typeLookup (.type "list_reverseiterator") "__len__" = pure none := by rw [typeLookup_type, builtinLookup_eq_fast]; kernel_rfl
theorem lri_hint : typeLookup (.type "list_reverseiterator") "__length_hint__" = pure (some (.builtin "list_reverseiterator.__length_hint__")) := by rw [typeLookup_type, builtinLookup_eq_fast]; kernel_rfl
section
variable {prog : Program} {w : World} {A : Around} {E : Value → Shared → Prop} {s : Shared} {I : Addr}
theorem hint_rev {Q : Bool → Shared → Prop} (hT : s.TypeIs (.ref I) "list_reverseiterator") (h : Q false s) : wpAny (model prog w) A (Builtin.List.listLengthHint (.ref I)) Q E s := by
  unfold Builtin.List.listLengthHint
  refine wpAny_bind (wpAny_specialOf hT lri_nolen ?_)
  show wpAny _ A (specialOf (Value.ref I) (Str.ofString "__length_hint__") >>= _) _ _ _
  refine wpAny_bind (wpAny_specialOf hT lri_hint ?_)
  generalize hid : ("list_reverseiterator.__length_hint__" : String) = id0
  wp_delta
  rw [show splitId id0 = some ("list_reverseiterator", "__length_hint__") from by subst hid; decide +kernel]
  subst hid
  refine wpAny_bind (wpAny_isInstance (b := true) hT (by rw [isSubtype_type]; kernel_rfl) ?_)
  exact wpAny_pure h
end
section
variable {prog : Program} {w : World} {A : Around} {E : Value → Shared → Prop} {s : Shared} {l I : Addr} {items : Array Value}
theorem call_list_rev {Q : Value → Shared → Prop} (hh : A.handled = none) (hne : l ≠ I) (hit : s.heap.IsRevIter I l ((items.size : Int) - 1)) (hl : s.heap.IsList l items) (hn : items.size ≤ sizeLine)
    (hQ : ∀ (h' : Heap) (tk : Nat) (acc : Array Value) (c : Nat), (∀ b o, b ≠ I → s.heap.get? b = some o → h'.get? b = some o) → h'.get? s.heap.objs.size = some { cls := .type "list", dict := none, data := .seq acc c, slots := #[] } →
      ItemsOf (fun i v => items[items.size - 1 - i]? = some v) acc items.size → Q (.ref s.heap.objs.size) { s with heap := h', toks := tk }) :
    wpAny (model prog w) A (call (.type "list") [.ref I]) Q E s := by
  refine callType_codes (Q₁ := fun obj s₁ => obj = .ref s.heap.objs.size ∧ s₁ = { s with heap := s.heap.push { cls := .type "list", data := .seq #[] } }) F.called_list (F.typeCall_list_1 _) F.entry_list_init
    (code_list_new _ ⟨rfl, rfl⟩) fun obj s₁ h₁ => ?_
  obtain ⟨rfl, rfl⟩ := h₁
  obtain ⟨oI, hoI, _⟩ := id hit
  obtain ⟨ol, hol, _⟩ := id hl
  have hIl : I < s.heap.objs.size := Heap.lt_size hoI
  have hll : l < s.heap.objs.size := Heap.lt_size hol
  have hSI : s.heap.objs.size ≠ I := Nat.ne_of_gt hIl
  have hSl : s.heap.objs.size ≠ l := Nat.ne_of_gt hll
  have hS : (s.heap.push { cls := .type "list", data := .seq #[] }).get? s.heap.objs.size = some { cls := .type "list", data := .seq #[] } := Heap.get?_push_size _ rfl
  have W := (Walks.listRev (prog := prog) (w := w) (A := A.in1.in1) hh I l hne items).toS
  refine ⟨⟨_, hS, rfl⟩, F.args_list_init_2 _ _, ?_⟩
  show wpAny _ A.in1.in1 (do let old ← Builtin.List.listItems (.ref s.heap.objs.size); Builtin.List.listUpdate (.ref s.heap.objs.size) (fun _ => #[]); letGo old.toList.reverse; Builtin.List.listExtendWith (.ref s.heap.objs.size) (.ref I) .none) _ _ _
  refine wpAny_bind ?_
  unfold Builtin.List.listItems
  refine wpAny_bind (wpAny_seqItems hS rfl (wpAny_pure ?_))
  show wpAny _ _ (updateSeq s.heap.objs.size (fun _ => #[]) >>= fun _ => letGo (#[] : Array Value).toList.reverse >>= fun _ => Builtin.List.listExtendWith (.ref s.heap.objs.size) (.ref I) .none) _ _ _
  refine wpAny_bind (wpAny_updateSeq hS rfl ?_)
  have hS2 := Heap.get?_update_self (Obj.mapSeq (fun _ => (#[] : Array Value))) hS rfl
  have oth : ∀ b o, s.heap.get? b = some o → ((s.heap.push { cls := .type "list", data := .seq #[] }).update s.heap.objs.size (Obj.mapSeq (fun _ => (#[] : Array Value)))).get? b = some o :=
    fun b o e => (Heap.get?_update_other _ _ (Ne.symm (Nat.ne_of_lt (Heap.lt_size e)))).trans (Heap.get?_push_of_some _ e)
  refine wpAny_bind (wpAny_letGo ?_)
  have hit2 := hit.at fun o e => oth I o e
  have hl2 := hl.at fun o e => oth l o e
  have hTI : Shared.TypeIs { s with heap := (s.heap.push { cls := .type "list", data := .seq #[] }).update s.heap.objs.size (Obj.mapSeq (fun _ => (#[] : Array Value))) } (.ref I) "list_reverseiterator" := by
    obtain ⟨o, ho, hc, _⟩ := hit2
    exact ⟨o, ho, hc⟩
  unfold Builtin.List.listExtendWith
  refine wpAny_bind (wpAny_typeOf (T := "list_reverseiterator") hTI ?_)
  have h1 : Builtin.List.listSameRef (.ref s.heap.objs.size) (.ref I) = false := by simp [Builtin.List.listSameRef, hSI]
  have h2 : (Value.type "list_reverseiterator" == Value.type "list") = false := by decide
  have h3 : (Value.type "list_reverseiterator" == Value.type "tuple") = false := by decide
  simp only [h1, h2, h3, Bool.or_false, Bool.false_eq_true, if_false]
  refine wpAny_bind (wpAny_pyIter_revIter hit2 ?_)
  refine wpAny_bind (wpAny_holding (hint_rev hTI ?_))
  rw [if_neg (by decide)]
  refine wpAny_pure ⟨plainId_quiet F.plain_extend_loop _, codeAny_extend_loopS W hn s.heap.objs.size ?_ .none items.size 0 _ #[] _ rfl (Nat.zero_le _) ⟨Nat.zero_le _, ?_, hl2⟩ hS2 (ItemsOf.nil _) fun s' acc' c' hm hS' hacc => ?_⟩
  · intro hm
    rcases List.mem_cons.mp hm with z | z
    · exact hSI z
    · exact hSl (List.mem_singleton.mp z)
  · have e : (items.size : Int) - 1 - ((0 : Nat) : Int) = (items.size : Int) - 1 := by omega
    rw [e]; exact hit2
  · rw [Moved.eq_with hm]
    refine ⟨rfl, hQ s'.heap s'.toks acc' c' (fun b o hb e => hm.heap b o (fun hmem => ?_) (oth b o e)) hS' hacc⟩
    rcases List.mem_cons.mp hmem with z | z
    · exact Nat.ne_of_lt (Heap.lt_size e) z
    · exact hb (List.mem_singleton.mp z)
end
theorem items_rev {items : List Value} {acc : Array Value} (h : ItemsOf (fun i v => items.toArray[items.toArray.size - 1 - i]? = some v) acc items.toArray.size) : acc.toList = items.reverse := by
  obtain ⟨h1, h2⟩ := h
  rw [List.size_toArray] at h1 h2
  refine List.ext_getElem (by rw [List.length_reverse, Array.length_toList]; exact h1) fun j a b => ?_
  have hj : acc[j]? = some (acc.toList[j]) := by rw [← Array.getElem?_toList]; exact List.getElem?_eq_getElem a
  have := h2 j _ hj
  rw [List.getElem_reverse]
  have e : items[items.length - 1 - j]? = some (acc.toList[j]) := by simpa using this
  obtain ⟨_, e2⟩ := List.getElem?_eq_some_iff.mp e
  exact e2.symm
section
variable {X : Cx}
def tListRev (K : PySem.W.Frag) (ta : TA) : TE := fun σ H Q => ta σ H fun vs H1 => ∃ a ys, vs = [.ref a] ∧ SqL K H1 a ys ∧ ∀ l, H1 l = none → Q (.ref l) (upd H1 l (.lst ys.reverse))
theorem pe_listRev {e : Expr} {ta : TA} {p p2 pos pos2 : Pos} (hc : X.calm = true) (hg : Gl X "list") (hm : X.mg "list" = none) (hg2 : Gl X "reversed") (hm2 : X.mg "reversed" = none) (ha : PA X [e] ta)
    (hs : starEach [.Call (.Name "reversed" p2) [e] [] pos2] X.env = [(false, eval (.Call (.Name "reversed" p2) [e] [] pos2) X.env)] := by rfl) (hs2 : starEach [e] X.env = [(false, eval e X.env)] := by rfl) :
    PE X (.Call (.Name "list" p) [.Call (.Name "reversed" p2) [e] [] pos2] [] pos) (tListRev X.K ta) := by
  intro pins s σ H Q I h
  refine wpAny_Call_Name_kw (ld_blt I hg hm boot_list ?_ (by decide) (by decide))
  refine PyProof.Rows.callWith_type1 ?_ hs rfl
  rw [hs]
  show wpAny _ _ (spliced ((false, eval (.Call (.Name "reversed" p2) [e] [] pos2) X.env) :: backTo pos (starEach [] X.env))) _ _ s
  refine Calls.spliced_cons ?_
  refine wpAny_Call_Name_kw (ld_blt I hg2 hm2 boot_reversed ?_ (by decide) (by decide))
  refine PyProof.Rows.callWith_type1 (thn (ha pos2 pins s σ H _ I h) fun us s1 h1 => ?_) hs2 rfl
  obtain ⟨vs, H1, I1, r1, a, ys, rfl, hq, q⟩ := h1
  obtain ⟨u, rfl, rx⟩ := vals1 r1
  cases rx
  obtain ⟨its, rv, pl, hz⟩ := I1.list hq
  have hlen := rv.length
  refine call_reversed_list pl.isList ?_
  refine Calls.spliced_nil ?_
  have hal : a < s1.heap.objs.size := by
    obtain ⟨o, ho, _⟩ := pl.isList
    exact Heap.lt_size ho
  have I2 : Inv X pins σ H1 { s1 with heap := s1.heap.push (revObj a ((its.toArray.size : Int) - 1)) } := I1.kept (t' := s1.toks) fun b o z => Heap.get?_push_of_some _ z
  refine call_list_rev (s := { s1 with heap := s1.heap.push (revObj a ((its.toArray.size : Int) - 1)) }) (l := a) (items := its.toArray) (I1.ok.hd hc) (Nat.ne_of_lt hal) ⟨_, Heap.get?_push_size _ rfl, rfl, rfl⟩ (pl.isList.at fun o z => Heap.get?_push_of_some _ z) (by rw [List.size_toArray]; omega) fun h' tk acc c hk hS hacc => ?_
  have e1 := items_rev hacc
  have hsz : (s1.heap.push (revObj a ((its.toArray.size : Int) - 1))).objs.size = s1.heap.objs.size + 1 := Heap.size_push ..
  have hn : H1 (s1.heap.push (revObj a ((its.toArray.size : Int) - 1))).objs.size = none := I2.hok.fresh (Nat.le_refl _)
  have I4 : Inv X pins σ (upd H1 (s1.heap.push (revObj a ((its.toArray.size : Int) - 1))).objs.size (.lst ys.reverse)) { s1 with heap := h', toks := tk } :=
    I1.laid (t' := tk) (fun b o z => hk b o (Nat.ne_of_lt (Heap.lt_size z)) (Heap.get?_push_of_some _ z)) (by rw [hsz]; exact Nat.le_succ _)
      (show ObjOk X.prog X.w _ _ _ (.lst ys.reverse) from ⟨by rw [List.length_reverse]; exact hz, its.reverse, c, rv.reverse, by rw [← e1, Array.toArray_toList]; exact hS⟩)
  exact ⟨.ref _, _, I4, rfl, q _ hn⟩
def seqI (lo : Int) (n : Nat) : List Int := (List.range n).map fun (i : Nat) => lo + (i : Int)
theorem call_sum_ints (hc : X.calm = true) : CallR X (.builtin "sum") (fun xs H Q => ∃ (p : Addr) (ns : List Int), xs = [.ref p] ∧ SqL X.K H p (ns.map V.int) ∧ ns.length ≤ 2 ^ 20 ∧ (∀ x ∈ ns, -(2 ^ 40) ≤ x ∧ x ≤ 2 ^ 40) ∧ Q (.int ns.sum) H) := by
  intro pins s σ H xs us Q I r h
  obtain ⟨p, ns, rfl, hq, h20, h40, q⟩ := h
  obtain ⟨u, rfl, rx⟩ := vals1 r
  cases rx
  obtain ⟨its, r', pl, hz⟩ := I.list hq
  have hI := intsAre_of r'
  obtain ⟨xs, e⟩ := hI.allInts.items
  have hns : ns = xs.toList.map (·.1) := by rw [← hI.numsOf, ← nums_intItems, ← e]
  have hl := pl.isList
  rw [e] at hl
  have hfit := sumFits_small h40 h20
  have hnum : ∀ j, numAt xs j = ns.getD j 0 := fun j => by rw [hns]; exact numAt_eq xs j
  have hpre : ∀ j, preSum (numAt xs) j = (ns.take j).sum := fun j => by
    have e2 : numAt xs = fun i => ns.getD i 0 := funext hnum
    rw [e2]; exact preSum_getD ns j
  have hsz : ns.length = xs.size := by rw [hns, List.length_map, Array.length_toList]
  refine sum_intList (I.ok.hd hc) hl (fun j hj => ?_) fun h' tk t' hk => ?_
  · rw [hnum, hpre]
    exact hfit j (by omega)
  · refine ⟨.int ns.sum, H, I.kept (t' := tk) hk, ⟨t', ?_⟩, q⟩
    rw [hpre, ← hsz, List.take_length]
end
end L3

set_option Elab.async false
set_option linter.all false
set_option maxRecDepth 100000
set_option maxHeartbeats 4000000
namespace L3
open PySem PySem.Spec PyProof.Rows L2
section
variable {X : Cx} {K : PySem.W.Frag}
theorem pg_tupK {es : List Expr} {k : Nat} {t : TGs} {n : Nat} {pos : Pos} (hK : X.K = K) (hc : X.calm = true) (h : PGs X es t) (hn : (assignEach es X.env).length = n := by rfl) (hst : (assignEach es X.env).findIdx? (·.1) = none := by rfl) : PG X (.Tuple es k pos) (gTup K n t) := by
  subst hK; exact pg_tup hc h hn hst
theorem ix_tupK (hK : X.K = K) : IxR X (rIxT K) := by subst hK; exact ix_tup
end
end L3

set_option Elab.async false
set_option linter.all false
set_option maxRecDepth 100000
set_option maxHeartbeats 4000000
namespace L3
open PySem PySem.Spec PyProof.Rows L2

theorem objOk_there {P : Program} {w : World} {H : Hp} {h : Heap} {a : Addr} {o : HO} (x : ObjOk P w H h a o) : ∃ u, h.get? a = some u := by
  cases o with
  | lst xs => obtain ⟨_, _, _, _, e⟩ := x; exact ⟨_, e⟩
  | tup xs => obtain ⟨_, _, _, p⟩ := x; obtain ⟨o, e, _⟩ := p; exact ⟨_, e⟩
  | dK kvs => obtain ⟨_, _, _, _, o, _, _, e, _⟩ := x; exact ⟨_, e⟩
  | dT kvs => obtain ⟨_, _, _, _, o, _, _, e, _⟩ := x; exact ⟨_, e⟩
  | set S n => obtain ⟨o, _, _, _, e, _⟩ := x; exact ⟨_, e⟩
  | ins C dx fs => obtain ⟨_, _, _, e, _⟩ := x; exact ⟨_, e⟩
  | own y => exact x
  | xd fs => obtain ⟨_, ⟨_, _, _, e, _⟩, _⟩ := x; exact ⟨_, e⟩
  | rng lo hi => obtain ⟨_, _, _, e⟩ := x; exact ⟨_, e⟩
  | frz ob u => obtain ⟨e, _⟩ := x; exact ⟨_, e⟩
  | tbl ps => exact ⟨_, (show h.get? a = some _ from x)⟩
  | met f y => exact ⟨_, (show h.get? a = some _ from x)⟩
  | ext φ => obtain ⟨_, e, _⟩ := x; exact e

structure Fly (P : Program) (w : World) (outer : List Env) (H : Hp) (s : Shared) (H' : Hp) (a C : Addr) (s' : Shared) : Prop where
  os : s'.os = s.os
  bare : AllBare s'.gens
  un : Un (frs outer) [] H H' s.heap s'.heap
  hok : HOk P w H' s'.heap
  fly : ∃ B a0, Heap.FlyingW B outer a (.ref C) a0 s'.heap ∧ (∀ b o, H' b = some o → ∃ u, B.get? b = some u) ∧ (∀ b o, s.heap.get? b = some o → b ∉ frs outer → ∃ u, B.get? b = some u)
def CX1 (P : Program) (w : World) : CXT := fun outer H s E e s' => ∃ a C H', e = .ref a ∧ Fly P w outer H s H' a C s' ∧ E (.ref C) none H'

theorem fly_move {P : Program} {w : World} {fs : List Addr} {H H' : Hp} {h h1 h2 B : Heap} (un : Un fs [] H H' h h1) (hok : HOk P w H' h1) (k1 : B.StaysIn h1) (hl : ∀ b ∈ fs, ∃ o, h1.get? b = some o ∧ ∀ vs, o.data ≠ .fields vs)
    (c1 : ∀ b o, H' b = some o → ∃ u, B.get? b = some u) (c2 : ∀ b o, h.get? b = some o → b ∉ fs → ∃ u, B.get? b = some u) (k2 : B.StaysIn h2) (sm : h1.UpToSlots h2) : Un fs [] H H' h h2 ∧ HOk P w H' h2 := by
  refine ⟨⟨fun b o q n hb hx => ?_, fun b o q n hb hx => ?_, un.free, fun b o q hx => ?_, un.tups, un.frzs, un.tbls⟩, fun b o e => ?_⟩
  · obtain ⟨u, hu⟩ := c2 b o q hb
    have e1 := un.keep b o q n hb hx
    have e2 := k1 b u hu
    rw [e1] at e2
    cases e2
    exact k2 b o hu
  · obtain ⟨sl, e1⟩ := un.slot b o q n hb hx
    obtain ⟨o', e', nf⟩ := hl b hb
    rw [e1] at e'
    cases e'
    obtain ⟨sl2, e2⟩ := sm b _ e1 nf
    exact ⟨sl2, e2⟩
  · by_cases hb : b ∈ fs
    · obtain ⟨o', e', nf⟩ := hl b hb
      obtain ⟨sl2, e2⟩ := sm b _ e' nf
      exact ⟨_, e2⟩
    · obtain ⟨u, hu⟩ := c2 b o q hb
      exact ⟨u, k2 b u hu⟩
  · have same : ∀ c v u, H' c = some u → h1.get? c = some v → h2.get? c = some v := fun c v u hc q => by
      obtain ⟨z, hz⟩ := c1 c u hc
      have e2 := k1 c z hz
      rw [q] at e2
      cases e2
      exact k2 c v hz
    refine (hok b o e).stay (fun c v hc q => ?_) (fun _ z => z) (fun _ _ z => z)
    rcases hc with z | z
    · exact same c v o (by rw [z]; exact e) q
    · exact same c v _ z q

section
variable {P : Program} {w : World} {K : PySem.W.Frag} {mg : Str → Option Value} {base : Heap} {N : List Str} {qual : Str} {scope : Scope} {f : Addr} {cd : Value} {A : Around} {outer : List Env} {s : Shared} {H : Hp} {E : XK}

theorem fly_leave {pins : List (Addr × Obj)} {σ : St} {H1 H' : Hp} {s1 s' : Shared} {a C : Addr} {a0 : Value} {B h2 : Heap} (I : Inv (cxOf (CX1 P w) P w K mg base N qual scope f cd A outer s H E) pins σ H1 s1)
    (ho : s'.os = s1.os) (hb : AllBare s'.gens) (un : Un (frs (envOfC qual scope s.heap.objs.size f cd :: outer)) [] H1 H' s1.heap h2) (hok : HOk P w H' h2)
    (fly : Heap.FlyingW B outer a (.ref C) a0 h2) (c1 : ∀ b o, H' b = some o → ∃ u, B.get? b = some u)
    (c2 : ∀ b o, s1.heap.get? b = some o → b ∉ frs (envOfC qual scope s.heap.objs.size f cd :: outer) → ∃ u, B.get? b = some u) (hE : E (.ref C) none H') :
    CX1 P w outer H s E (.ref a) { s' with heap := h2 } := by
  have I2 : Inv (cxOf (CX1 P w) P w K mg base N qual scope f cd A outer s H E) pins σ H' { s' with heap := h2 } := I.call' (s' := { s' with heap := h2 }) (ch := []) ho un hok hb (fun b z => absurd z (by simp))
  refine ⟨a, C, H', rfl, ⟨I2.os, hb, I2.base, hok, B, a0, fly, c1, fun b o q hn => ?_⟩, hE⟩
  obtain ⟨o', e'⟩ := I.base.there b o q (by intro z; exact absurd (show b ∈ ([] : List Addr) from z) (by simp))
  refine c2 b o' e' fun hm => ?_
  rcases List.mem_cons.mp (show b ∈ s.heap.objs.size :: frs outer from hm) with z | z
  · exact absurd (Heap.lt_size q) (by rw [z]; exact Nat.lt_irrefl _)
  · exact hn z

theorem pass1 : Passes (CX1 P w) (cxOf (CX1 P w) P w K mg base N qual scope f cd A outer s H E) E := by
  rintro pins σ H1 s1 e s' I ⟨a, C, H', rfl, F, hE⟩
  obtain ⟨B, a0, hf, c1, c2⟩ := F.fly
  show wpAny (model P w) (A.deeper (envOfC qual scope s.heap.objs.size f cd)) (leaving (envOfC qual scope s.heap.objs.size f cd) (.ref a)) _ _ s'
  refine wpAny_leaves_onW (outer := outer) I.ok.frames rfl hf fun h2 hf2 sm => ?_
  obtain ⟨un2, hok2⟩ := fly_move F.un F.hok hf.1 (fun b hb => (hf.2.2.1.mem hb).2) c1 c2 hf2.1 sm
  exact fly_leave I F.os F.bare un2 hok2 hf2 c1 c2 hE

theorem raise_leaves {pins : List (Addr × Obj)} {σ : St} {H1 : Hp} {s1 : Shared} {C e : Addr} {h' : Heap} {vs : List Value} (I : Inv (cxOf (CX1 P w) P w K mg base N qual scope f cd A outer s H E) pins σ H1 s1)
    (hx : Heap.MadeExcOf s1.heap h' e (.ref C) vs) (hE : E (.ref C) none H1) : (cxOf (CX1 P w) P w K mg base N qual scope f cd A outer s H E).xe (.ref e) { s1 with heap := h' } := by
  show wpAny (model P w) (A.deeper (envOfC qual scope s.heap.objs.size f cd)) (leaving (envOfC qual scope s.heap.objs.size f cd) (.ref e)) _ _ { s1 with heap := h' }
  have hstk : s1.heap.FunFrames base (envOfC qual scope s.heap.objs.size f cd :: outer) := I.stack
  have hB : (PySem.W.hideAll s1.heap (frs (envOfC qual scope s.heap.objs.size f cd :: outer))).StaysIn s1.heap := fun b o q => PySem.W.of_hideAll _ q
  refine wpAny_leaves_madeW (base := PySem.W.hideAll s1.heap (frs (envOfC qual scope s.heap.objs.size f cd :: outer))) (h := s1.heap) (outer := outer) I.ok.frames rfl hB
    (PySem.W.funFrames_hide hstk fun env he b hb => List.mem_filterMap.mpr ⟨env, he, hb⟩) hx fun h2 t fly _ _ sm => ?_
  have c1 : ∀ b o, H1 b = some o → ∃ u, (PySem.W.hideAll s1.heap (frs (envOfC qual scope s.heap.objs.size f cd :: outer))).get? b = some u := fun b o q => by
    obtain ⟨u, hu⟩ := objOk_there (I.hok b o q)
    exact ⟨u, PySem.W.hideAll_get _ hu fun hm => by rw [I.stkFree b hm] at q; cases q⟩
  have c2 : ∀ b o, s1.heap.get? b = some o → b ∉ frs (envOfC qual scope s.heap.objs.size f cd :: outer) → ∃ u, (PySem.W.hideAll s1.heap (frs (envOfC qual scope s.heap.objs.size f cd :: outer))).get? b = some u := fun b o q hn => ⟨o, PySem.W.hideAll_get _ q hn⟩
  obtain ⟨un2, hok2⟩ := fly_move (h := s1.heap) (h1 := h') (h2 := h2) (Un.kept hx.keeps) (I.hok.kept hx.keeps) (fun b o q => hx.keeps b o (hB b o q))
    (fun b hb => by
      obtain ⟨_, o, ho, nf⟩ := hstk.mem hb
      exact ⟨o, hx.keeps b o ho, nf⟩) c1 c2 fly.1 sm
  exact fly_leave (s' := s1) I rfl I.bare un2 hok2 fly c1 c2 hE
end

abbrev bmV : List Value := [.type "ValueError", .type "Exception", .type "BaseException", .type "object"]
theorem own_cls {K : PySem.W.Frag} {h : Heap} {mg : Str → Option Value} {x : Str} {C : Addr} {bmB : List Value} {newId : String} (KX : K.In h) (hx : mg x = some (.ref C)) (z : PySem.W.excIn K C bmB newId = true) : OwnCls x C bmB newId mg h := by
  refine ⟨hx, ?_⟩
  unfold PySem.W.excIn at z
  split at z
  · next dd cd sl ho =>
    split at z
    · next C' bm k0 k1 k2 k3 n k5 hm hs =>
      simp only [Bool.and_eq_true, beq_iff_eq, Bool.not_eq_true'] at z
      obtain ⟨⟨⟨⟨⟨z1, z2⟩, z3⟩, z4⟩, z5⟩, z6⟩ := z
      subst z1
      subst z2
      obtain ⟨nm, bs, mro, ns, qn, hd, sn, sub, ab, col, del⟩ := cd
      dsimp only at hm z3 z5 z6
      subst hm
      subst z3
      obtain ⟨l⟩ := sl
      simp only at hs
      subst hs
      refine ⟨bm, ns, nm, qn, bs, hd, sn, sub, ab, col, dd, k0, k1, k2, k3, k5, h.nsMap ns, ?_, ?_, ?_, ?_⟩
      · exact KX _ _ ho
      · exact .of_isNs (PySem.W.isNs_of_in KX z5)
      · exact PySem.W.nsMap_none_of_in KX z5 z6
      · exact PySem.W.tail_of_in KX z4
    · cases z
  · cases z

section
variable {P : Program} {w : World} {K : PySem.W.Frag} {mg : Str → Option Value} {base : Heap} {N : List Str} {qual : Str} {scope : Scope} {f : Addr} {cd : Value} {A : Around} {outer : List Env} {s : Shared} {H : Hp} {E : XK}
def tRaise (C : Addr) (E : XK) (t : TA) : TS := fun _ σ H => t σ H fun vs H1 => vs.length ≤ sizeLine ∧ E (.ref C) none H1
theorem ps_raise {x : Str} {C : Addr} {np cpos pos : Pos} {e : Expr} {es : List Expr} {t : TA} (hg : Gl (cxOf (CX1 P w) P w K mg base N qual scope f cd A outer s H E) x) (hm : mg x = some (.ref C)) (hc : PySem.W.excIn K C bmV "ValueError.__new__" = true)
    (ha : PA (cxOf (CX1 P w) P w K mg base N qual scope f cd A outer s H E) (e :: es) t) (hdb : (x == ("__debug__" : Str)) = false := by decide)
    (he : starEach (e :: es) (envOfC qual scope s.heap.objs.size f cd) = (false, eval e (envOfC qual scope s.heap.objs.size f cd)) :: starEach es (envOfC qual scope s.heap.objs.size f cd) := by rfl)
    (hpl : (backTo cpos (starEach (e :: es) (envOfC qual scope s.heap.objs.size f cd))).any (·.1) = false := by rfl) :
    PS (cxOf (CX1 P w) P w K mg base N qual scope f cd A outer s H E) (.Raise (some (.Call (.Name x np) (e :: es) [] cpos)) none pos) (tRaise C E t) := by
  intro pins s1 σ H1 D I h
  have O : OwnCls x C bmV "ValueError.__new__" mg base := own_cls I.mod.kin hm hc
  obtain ⟨tl, N', nm, q, bs, hdct, sn, sub, ab, col, dd, k0, k1, k2, k3, k5, mN, hC, hN, hni, T⟩ := O.obj
  have hh : (cxOf (CX1 P w) P w K mg base N qual scope f cd A outer s H E).A.handled = none := I.ok.hd rfl
  refine wpAny_Raise_call_subT (C := C) (nm := nm) (q := q) (N := N') (bs := bs) (bm := tl) (hdct := hdct) (sn := sn) (sub := sub) (ab := ab) (col := col) (dd := dd) (k0 := k0) (k1 := k1) (k2 := k2) (k3 := k3) (k5 := k5)
    PySem.F.excBase_ValueError (mN := mN) (T.hasType PySem.F.excBase_ValueError.hasBase) hh hpl hni (ld_glob I hg hm ⟨rfl, ?_⟩ hdb)
  have h' := ha cpos pins s1 σ H1 _ I h
  change wpAny _ _ (spliced (backTo cpos (starEach (e :: es) (envOfC qual scope s.heap.objs.size f cd)))) _ _ _ at h'
  show wpAny _ _ (evalArgs (.ref C) true (backTo cpos (starEach (e :: es) (envOfC qual scope s.heap.objs.size f cd))) []) _ _ _
  rw [he] at h' ⊢
  exact Calls.evalArgs_plain (wpAny_mono h' (fun vs s2 ⟨ws, H2, I2, r, hl, hE⟩ => ⟨rfl, by rw [← r.length]; exact hl, I2.bk _ _ hC, hN.keeps I2.bk, T.keeps I2.bk, fun h3 e3 hm3 => raise_leaves I2 hm3 hE⟩) fun _ _ y => y)
end

theorem Fun.okX {P : Program} {w : World} {K : PySem.W.Frag} {mg : Str → Option Value} {base : Heap} {x qual : Str} {st : Stmt} {f : Addr} {fd : FuncData} {N ps : List Str} {k : Nat} {sp : Sp} (F : L2.Fun K x qual st f fd) (S : FnScope N ps (defScope st)) (len : ∀ vs H Q E, sp vs H Q E → vs.length = ps.length)
    (hbody : ∀ (cdv : Value) (A : Around) (outer : List Env) (s : Shared) (H : Hp) (vs : List V) (Q : VK) (E : XK), Room k (A.deeper (envOfC qual (defScope st) s.heap.objs.size f cdv)) → sp vs H Q E →
      ∃ t, PSs (cxOf (CX1 P w) P w K mg base N qual (defScope st) f cdv A outer s H E) (defBody st) t ∧ t { nx := fun _ H' => Q .non H', rt := Q } (start N vs) H) : FnOk P w K mg base (CX1 P w) (k + 1) f fd ps sp := by
  obtain ⟨oc, od, kV, doc, pm, an, cdv, ct, osl, rfl, lk, hcd⟩ := F.ex
  exact fn_of lk hcd S len fun A outer s H vs Q E hr hsp => hbody cdv A outer s H vs Q E hr hsp
theorem FnOk.to0 {P : Program} {w : World} {K : PySem.W.Frag} {mg : Str → Option Value} {base : Heap} {k : Nat} {f : Addr} {fd : FuncData} {ps : List Str} {sp sp' : Sp} (F : FnOk P w K mg base (CX1 P w) k f fd ps sp) (h : ∀ vs H Q E, sp' vs H Q E → sp vs H Q E0) : FnOk P w K mg base CX0 k f fd ps sp' :=
  ⟨fun vs H Q E q => F.len vs H Q _ (h _ _ _ _ q), fun A outer s H args us vs Q E hr he hb hv hs => codeAny_mono (F.run A outer s H args us vs Q E0 hr he hb hv (h _ _ _ _ hs)) fun r s' h => by
    cases r with
    | error e => obtain ⟨_, _, _, _, _, z⟩ := h; exact z
    | ok fl => cases fl <;> exact h⟩

def XC (X : Cx) (pins : List (Addr × Obj)) (σ : St) (EK : XK) (e : Value) (s' : Shared) : Prop := ∃ H1 s1, Inv X pins σ H1 s1 ∧ CX1 X.prog X.w X.stack H1 s1 EK e s'
abbrev TX := XK → TS
def PX1 (X : Cx) (st : Stmt) (t : TX) : Prop := ∀ (pins : List (Addr × Obj)) (s : Shared) (σ : St) (H : Hp) (D : Ends) (EK : XK), Inv X pins σ H s → t EK D σ H → wpAny (model X.prog X.w) X.A (exec st X.env) (SP X pins D) (XC X pins σ EK) s
def PXs (X : Cx) (st : List Stmt) (t : TX) : Prop := ∀ (pins : List (Addr × Obj)) (s : Shared) (σ : St) (H : Hp) (D : Ends) (EK : XK), Inv X pins σ H s → t EK D σ H → wpAny (model X.prog X.w) X.A (execs st X.env) (SP X pins D) (XC X pins σ EK) s
def PXe (X : Cx) (e : Expr) (t : XK → TE) : Prop := ∀ (pins : List (Addr × Obj)) (s : Shared) (σ : St) (H : Hp) (Q : VK) (EK : XK), Inv X pins σ H s → t EK σ H Q → wpAny (model X.prog X.w) X.A (eval e X.env) (EP X pins σ Q) (XC X pins σ EK) s
section
variable {X : Cx} {k : Nat} {f : Addr} {fd : FuncData} {ps : List Str} {sp : Sp} {dvs : List V} {ds : List Value} {x : Str} {p pos : Pos} {e : Expr} {es : List Expr} {t : TA}
theorem px_call (F : FnOk X.prog X.w X.K X.mg X.base (CX1 X.prog X.w) k f fd ps sp) (hr : Room k X.A) (hg : Gl X x) (hm : X.mg x = some (.ref f)) (hk : PySem.W.keepIn X.K (.ref f) = true) (hb : Binds X.K fd ps ds) (hd : Vals dvs ds)
    (ha : PA X.nox (e :: es) t) (hdb : (x == ("__debug__" : Str)) = false := by decide) (he : starEach (e :: es) X.env = (false, eval e X.env) :: starEach es X.env := by rfl) (hpl : (backTo pos (starEach es X.env)).any (·.1) = false := by rfl) :
    PXe X (.Call (.Name x p) (e :: es) [] pos) (fun EK => tCall sp dvs EK t) := by
  intro pins s σ H Q EK I h
  refine wpAny_Call_Name_kw (ld_glob I hg hm ?_ hdb)
  refine PySem.W.callWith_K (h₀ := X.base) I.ok.mod.kin hk (wpAny_mono (ha pos pins s σ H _ (I.wish _) h) (fun us s1 ⟨vs, H1, I1, r, q⟩ => ⟨I1.kIn, ?_⟩) fun _ _ z => z.elim) he hpl
  have I1 := I1.unwish
  have r2 : Vals (vs ++ dvs) (us ++ ds) := r.append hd
  have hl : (us ++ ds).length = ps.length := by rw [← r2.length]; exact F.len _ _ _ _ q
  refine wpAny_call (codeAny_mono (F.run X.A X.stack s1 H1 ⟨us, []⟩ (us ++ ds) (vs ++ dvs) Q EK hr I1.env0 (hb s1 us I1.kIn hl) r2 q) fun r s' hq => ?_)
  cases r with
  | error e => exact ⟨H1, s1, I1, hq⟩
  | ok fl =>
    cases fl with
    | ret u => exact I1.after hq
    | next => exact False.elim hq
    | brk => exact False.elim hq
    | cont => exact False.elim hq
theorem px_expr {te : XK → TE} (he : PXe X e te) (hs : swapsWith e none pos.line X.env = pure false := by rfl) : PX1 X (.Expr e pos) (fun EK => tDrop (te EK)) := by
  intro pins s σ H D EK I h
  exact wpAny_Expr_any (thn (he pins s σ H _ EK I h) fun v s1 ⟨x, H1, I1, r1, q1⟩ => ⟨σ, H1, I1, q1⟩) I.quiet hs
theorem pxs_one {st : Stmt} {t : TX} (h1 : PX1 X st t) : PXs X [st] t := by
  intro pins s σ H D EK I h
  refine wpAny_execs_cons (thn (h1 pins s σ H D EK I h) fun f s1 q => ?_)
  cases f with
  | next => exact wpAny_execs_nil q
  | ret v => exact q
  | brk => exact q
  | cont => exact q
end

abbrev hand (X : Cx) (e : Value) : Cx := { X with A := X.A.mark (some e), calm := false, xe := fun _ _ => False }
section
variable {X : Cx} {pins : List (Addr × Obj)} {σ : St} {H : Hp} {s : Shared} {e : Value}
theorem inv_hand (I : Inv X pins σ H s) (e : Value) : Inv (hand X e) pins σ H s :=
  ⟨⟨I.ok.mod, I.ok.kind, I.ok.glob, I.ok.blt, I.ok.above, I.ok.inj, I.ok.has, I.ok.cab, (fun z => nomatch z), I.ok.frames, I.ok.stk, I.ok.exf, I.ok.bs, I.ok.bsz, I.ok.noex, I.ok.exfs, I.ok.funs, I.ok.frf⟩, I.os, I.bare, I.base, I.loc, I.cell, I.free, I.freeC, I.pin, I.hok, I.len⟩
theorem inv_unhand (ok : X.Ok) (I : Inv (hand X e) pins σ H s) : Inv X pins σ H s := ⟨ok, I.os, I.bare, I.base, I.loc, I.cell, I.free, I.freeC, I.pin, I.hok, I.len⟩

theorem name_goes {A : Around} {E : Value → Shared → Prop} {i : Nat} {n : Str} {pos : Pos} {Q : Unit → Shared → Prop} (I : Inv X pins σ H s) (hN : X.N.Nodup) (hi : X.N[i]? = some n) (hx : X.env.scope.names.lookup n = some .local)
    (h : ∀ s', Inv X pins (σ.set i none) H s' → Q () s') : wpAny (model X.prog X.w) A (do bindName X.env n .none; unbindBehindTheSuite X.env n pos) Q E s := by
  refine wpAny_bind (wpAny_bindName (store_ok (v := .non) I hN hi (.inl hx) rfl (fun s1 I1 => ?_) (.inr hx)))
  unfold unbindBehindTheSuite
  refine wpAny_onRaise ?_
  have hiσ : i < σ.length := by rw [I.len]; exact (List.getElem?_eq_some_iff.mp hi).1
  obtain ⟨m, hn, hl⟩ := id I1.loc
  obtain ⟨u, _, hu⟩ := hl i n .non hi (List.getElem?_set_self hiσ) (.inl hx)
  have hk : X.env.kindOf n = some .local := hx
  have hv : m n = some u := by
    rcases hu with ⟨_, e⟩ | ⟨k, _⟩
    · exact e
    · rcases k with k | k <;> (rw [hk] at k; cases k)
  have hcls : (X.env.scope.kind == .class || (X.env.scope.kind == .module && X.env.locals != X.env.globals)) = false := by rw [I.ok.kind]; rfl
  refine wpAny_unbindName_local hk hn hv hcls fun h' z hn' hs => ?_
  have ne : ∀ {b : Addr} {o : Obj}, X.s₀.heap.get? b = some o → b ≠ X.env.locals := fun e => Nat.ne_of_lt (Nat.lt_of_lt_of_le (Heap.lt_size e) I.ok.above)
  refine h _ ⟨I1.ok, I1.os, I1.bare, ⟨fun b o e a1 a2 a3 => (hs.2 b (ne e)).trans (I1.base.keep b o e a1 a2 a3), fun b o e a1 a2 a3 => ?_, I1.base.free, fun b o e a3 => ?_, I1.base.tups, I1.base.frzs, I1.base.tbls⟩, ⟨_, hn', fun j y v' e1 e2 e3 => ?_⟩, fun y c e => ?_, I1.free, I1.freeC, fun p hp => ?_, fun b o e => ?_, ?_⟩
  · obtain ⟨sl, q⟩ := I1.base.slot b o e a1 a2 a3
    exact ⟨sl, (hs.2 b (ne e)).trans q⟩
  · obtain ⟨o', q⟩ := I1.base.there b o e a3
    exact ⟨o', (hs.2 b (ne e)).trans q⟩
  · have hj : j ≠ i := fun q => by
      rw [q, List.getElem?_set_self hiσ] at e2
      cases e2
    rw [List.getElem?_set_ne (Ne.symm hj)] at e2
    obtain ⟨u', r', q⟩ := hl j y v' e1 (by rw [List.getElem?_set_ne (Ne.symm hj)]; exact e2) e3
    refine ⟨u', r', ?_⟩
    rcases q with ⟨k, q⟩ | ⟨k, c, q, cl⟩
    · refine .inl ⟨k, ?_⟩
      have hy : y ≠ n := fun q => hj (nodup_ix hN e1 (by rw [q]; exact hi))
      show (if y = n then z else m y) = some u'
      rw [if_neg hy]
      exact q
    · exact .inr ⟨k, c, q, cl.sameBut hs (I1.cne y c q)⟩
  · obtain ⟨v', cl⟩ := I1.cell y c e
    exact ⟨v', cl.sameBut hs (I1.cne y c e)⟩
  · obtain ⟨e, n', ne', nf, d⟩ := I1.pin p hp
    exact ⟨(hs.2 p.1 ne').trans e, n', ne', nf, d⟩
  · have nb : ∀ c u, H c = some u → c ≠ X.env.locals := fun c u q z => by rw [z, I1.free] at q; cases q
    refine (I1.hok b o e).stay (fun c v hc q => (hs.2 c ?_).trans q) (fun _ q => q) fun _ _ q => q
    rcases hc with rfl | hc
    · exact nb _ _ e
    · exact nb _ _ hc
  · rw [List.length_set]
    exact I.len
end

def excO (a C : Addr) : HO := .ext fun h => ∃ o, h.get? a = some o ∧ o.cls = .ref C
theorem excO_ok {P : Program} {w : World} {H : Hp} {h : Heap} {a C : Addr} {o : Obj} (e : h.get? a = some o) (c : o.cls = .ref C) : ObjOk P w H h a (excO a C) :=
  ⟨⟨o, e, c⟩, ⟨o, e⟩, fun h1 h2 ⟨o', e', c'⟩ k => ⟨o', k o' e', c'⟩⟩

def behind (D : Ends) (i : Nat) : Ends := { nx := fun σ H => D.nx (σ.set i none) H, rt := D.rt, bk := fun σ H => D.bk (σ.set i none) H, ct := fun σ H => D.ct (σ.set i none) H }
def tTry (K : PySem.W.Frag) (CB : Addr) (i : Nat) (tb : TX) (th : TS) : TS := fun D σ H =>
  tb (fun c _ H' => ∃ C, c = .ref C ∧ PySem.W.exmOne K (.ref C) (.ref CB) = some true ∧ ∀ a, H' a = none → th (behind D i) (σ.set i (some (.ref a))) (upd H' a (excO a C))) D σ H
theorem ps_try {X : Cx} {body : List Stmt} {x n : Str} {np hpos pos : Pos} {b₀ : Stmt} {suite : List Stmt} {CB : Addr} {i : Nat} {tb : TX} {th : TS} (hst : X.stack = X.env :: X.outer) (hfr : X.env.frame = some X.env.locals) (hb : PXs X body tb)
    (hg : Gl X x) (hm : X.mg x = some (.ref CB)) (hN : X.N.Nodup) (hi : X.N[i]? = some n) (hx : X.env.scope.names.lookup n = some .local) (hs : ∀ e, PSs (hand X e) (b₀ :: suite) th) (hdb : (x == ("__debug__" : Str)) = false := by decide) :
    PS X (.Try body [.ExceptHandler (some (.Name x np)) (some n) (b₀ :: suite) hpos] [] [] pos) (tTry X.K CB i tb th) := by
  intro pins s σ H D I h
  refine wpAny_Try_except (wpAny_mono (hb pins s σ H D _ I h) (fun f s1 q => ?_) fun e s1 q => ?_)
  · cases f with
    | next => exact wpAny_execs_nil q
    | ret v => exact q
    | brk => exact q
    | cont => exact q
  obtain ⟨H1, s2, I1, a, C, H', rfl, F, C', hC, hmat, hq⟩ := q
  cases hC
  obtain ⟨B, a0, hf, c1, c2⟩ := F.fly
  have hl : ∀ b ∈ frs X.stack, ∃ o, s1.heap.get? b = some o ∧ ∀ vs, o.data ≠ .fields vs := fun b hm => (hf.2.2.1.mem hm).2
  have hf1 := hf
  rw [hst] at hf
  refine wpAny_looks_onW (by rw [I.ok.frames, hst]) hfr hf fun h4 held4 sm4 => ?_
  refine wpAny_landsW held4 fun h5 fly5 sm5 => ?_
  obtain ⟨un5, hok5⟩ := fly_move F.un F.hok hf.1 hl c1 c2 fly5.1 (sm4.trans sm5)
  have I5 : Inv X pins σ H' { s1 with heap := h5 } := I1.call' (s' := { s1 with heap := h5 }) (ch := []) F.os un5 hok5 F.bare (fun b z => absurd z (by simp))
  obtain ⟨ob, hob, hobc⟩ := fly5.there
  refine wpAny_handleBy_cons (codeAny_handlers_test ?_) (by intro q; cases q)
  refine ld_glob (X := hand X (.ref a)) (inv_hand I5 (.ref a)) hg hm ?_ hdb
  have LT : PySem.W.Looks (model X.prog X.w) h5 (typeOf (.ref a)) (.ref C) := hobc ▸ (PySem.W.Looks.ld hob).andThen .now
  refine PySem.W.exm_one (M := model X.prog X.w) I5.kIn LT hmat _ _ _ _ (fun _ _ z => z) ?_
  show codeAny (model X.prog X.w) (X.A.mark (some (.ref a))) (.handlers (.ref a) [.ExceptHandler none (some n) (b₀ :: suite) hpos] X.env) _ _
  refine codeAny_handlers_suite_as ?_
  refine lands_againW fly5 fun h6 fly6 sm6 => ?_
  obtain ⟨un6, hok6⟩ := fly_move F.un F.hok hf.1 hl c1 c2 fly6.1 ((sm4.trans sm5).trans sm6)
  obtain ⟨oe, ws, hoe, hoec, hoed, _⟩ := fly6.first
  have ha' : H' a = none := by
    cases q : H' a with
    | none => rfl
    | some o =>
      obtain ⟨u, hu⟩ := c1 a o q
      rw [fly6.2.1] at hu
      cases hu
  have na : ∀ o, s2.heap.get? a = some o → False := fun o q => by
    by_cases hm : a ∈ frs X.stack
    · obtain ⟨o', ho', nf⟩ := (fly6.2.2.1.mem (by rw [hst] at hm; exact hm)).2
      rw [hoe] at ho'
      cases ho'
      exact nf _ hoed
    · obtain ⟨u, hu⟩ := c2 a o q hm
      rw [fly6.2.1] at hu
      cases hu
  have un6' : Un (frs X.stack) [] H1 (upd H' a (excO a C)) s2.heap h6 := ⟨un6.keep, un6.slot, fun b o q n hx => by rw [upd_ne (fun z => na o (by rw [← z]; exact q))]; exact un6.free b o q n hx, un6.there,
    fun b xs q => by rw [upd_ne (ne_of_none (un6.tups b xs q) ha')]; exact un6.tups b xs q, fun b o u q => by rw [upd_ne (ne_of_none (un6.frzs b o u q) ha')]; exact un6.frzs b o u q,
    fun b ps q => by obtain ⟨more, z⟩ := un6.tbls b ps q; exact ⟨more, by rw [upd_ne (ne_of_none z ha')]; exact z⟩⟩
  have hok6' : HOk X.prog X.w (upd H' a (excO a C)) h6 := fun b o e => by
    by_cases z : b = a
    · subst z
      rw [upd_same] at e
      cases e
      exact excO_ok hoe hoec
    · rw [upd_ne z] at e
      exact (hok6 b o e).stay (fun _ _ _ q => q) (fun c q => by rw [upd_ne (ne_of_none q ha')]; exact q) fun c xs q => by rw [upd_ne (ne_of_none q ha')]; exact q
  have I6 : Inv X pins σ (upd H' a (excO a C)) { s1 with heap := h6 } := I1.call' (s' := { s1 with heap := h6 }) (ch := []) F.os un6' hok6' F.bare (fun b z => absurd z (by simp))
  refine store_ok (X := hand X (.ref a)) (v := .ref a) (inv_hand I6 (.ref a)) hN hi (.inl hx) rfl (fun s7 I7 => ?_) (.inr hx)
  refine wpAny_mono (hs (.ref a) pins s7 _ _ (behind D i) I7 (hq a ha')) (fun f s8 q8 => ?_) fun _ _ z => z.elim
  show wpAny (model X.prog X.w) X.A (do bindName X.env n .none; unbindBehindTheSuite X.env n hpos) (fun _ s3 => SP X pins D f s3) X.xe s8
  cases f with
  | next =>
    obtain ⟨σ', H2, I8, q⟩ := q8
    exact name_goes (inv_unhand I.ok I8) hN hi hx fun s9 I9 => ⟨_, H2, I9, q⟩
  | brk =>
    obtain ⟨σ', H2, I8, q⟩ := q8
    exact name_goes (inv_unhand I.ok I8) hN hi hx fun s9 I9 => ⟨_, H2, I9, q⟩
  | cont =>
    obtain ⟨σ', H2, I8, q⟩ := q8
    exact name_goes (inv_unhand I.ok I8) hN hi hx fun s9 I9 => ⟨_, H2, I9, q⟩
  | ret u =>
    obtain ⟨v, σ', H2, I8, r, q⟩ := q8
    exact name_goes (inv_unhand I.ok I8) hN hi hx fun s9 I9 => ⟨v, _, H2, I9, r, q⟩
end L3

set_option Elab.async false
set_option linter.all false
set_option maxRecDepth 100000
set_option maxHeartbeats 4000000
namespace L3
open PySem PySem.Spec PyProof.Rows L2

structure ExcK (K : PySem.W.Frag) (C : Addr) : Prop where
  ga : PySem.W.findIn K (.ref C) "__getattribute__" = some (some (.builtin "BaseException.__getattribute__"))
  gt : PySem.W.findIn K (.ref C) "__getattr__" = some none
  cl : PySem.W.findIn K (.ref C) "__class__" = some (some (.builtin "object.__class__"))
  sb : PySem.W.subIn K (.ref C) (.type "BaseException") = some true
  so : PySem.W.subIn K (.ref C) (.type "object") = some true
  hc : (PySem.W.clsIn K C).isSome = true

section
variable {prog : Program} {w : World} {A : Around} {E : Value → Shared → Prop} {h : Heap} {g : Array GenState} {d : Drawn} {t : Nat} {os : OsState} {a C : Addr} {o : Obj} {K : PySem.W.Frag}

theorem exc_class_get {R : Result → Shared → Prop} (X : K.In h) (Z : ExcK K C) (hx : h.get? a = some o) (hc : o.cls = .ref C) (hq : R (.ok (.ret (.ref C))) ⟨h, g, d, t, os⟩) :
    codeAny (model prog w) A (.call (.builtin "getset_descriptor.__get__") ⟨[.builtin "object.__class__", .ref a, .ref C], []⟩) R ⟨h, g, d, t, os⟩ := by
  have y5 : (⟨h, g, d, t, os⟩ : Shared).TypeIs (.builtin "object.__class__") "getset_descriptor" := F.typeOf_object_class
  have LO : PySem.W.Looks (model prog w) h (isSubtype (.ref C) (.type (".".intercalate ("object.__class__".cutAt '.').dropLast))) true := by
    rw [F.owner_object_class]
    exact PySem.W.looks_subIn X Z.so
  refine codeAny_call_builtin F.slot_gs_get.plain F.entry_gs_get (F.slot_gs_get.check _ _ _ _ _ _ _ _ y5 (F.args_gs_get _ _ _) ?_)
  repeat (any_goals (first | assumption | (with_reducible refine wpAny_loadPart_at hx ?_; rw [hc]) | with_reducible refine LO.at ?_ | wp_step))
  refine ⟨Code.quiet_builtin _ (by decide +kernel), codeAny_builtin F.entry_object_class ?_⟩
  repeat (any_goals (first | assumption | (with_reducible refine wpAny_loadPart_at hx ?_; rw [hc]) | wp_step))

theorem exc_ga_check {M : Model} {nameV : Value} {Q : Unit → Shared → Prop} (X : K.In h) (Z : ExcK K C) (hx : h.get? a = some o) (hc : o.cls = .ref C) (hq : Q () ⟨h, g, d, t, os⟩) :
    wpAny M A (checkBuiltinCall "BaseException.__getattribute__" ⟨[.ref a, nameV], []⟩) Q E ⟨h, g, d, t, os⟩ := by
  have y1 : builtinKind "BaseException.__getattribute__" = some .slot := by decide +kernel
  have y2 : splitId "BaseException.__getattribute__" = some ("BaseException", "__getattribute__") := by decide +kernel
  have LS : PySem.W.Looks M h (isSubtype (.ref C) (.type "BaseException")) true := PySem.W.looks_subIn X Z.sb
  have y3 := F.args_bexc_ga (.ref a) nameV
  simp only [checkBuiltinCall, y1, y2]
  refine wpAny_bind ?_
  unfold isInstance
  repeat (first | (with_reducible refine wpAny_loadPart_at hx ?_; rw [hc]) | with_reducible refine LS.at ?_ | wp_step)
  exact hq

theorem exc_ga_entry {tk : Tok} {Q : Fin → Shared → Prop} (X : K.In h) (Z : ExcK K C) (hx : h.get? a = some o) (hc : o.cls = .ref C) (hq : Q (.done (.ret (.ref C))) ⟨h, g, d, t, os⟩) :
    wpAny (model prog w) A (Builtin.«object.__getattribute__» ⟨[.ref a, .str "__class__" tk], []⟩) Q E ⟨h, g, d, t, os⟩ := by
  have y5 : (⟨h, g, d, t, os⟩ : Shared).TypeIs (.builtin "object.__class__") "getset_descriptor" := F.typeOf_object_class
  have f5 := F.typeOf_object_class
  have f6 := F.slot_gs_get.lookup
  have f7 := F.slot_gs_set.lookup
  have LC : PySem.W.Looks (model prog w) h (typeLookup (.ref C) "__class__") (some (.builtin "object.__class__")) := PySem.W.looks_findIn X Z.cl
  repeat (any_goals (first | assumption | (with_reducible refine wpAny_loadPart_at hx ?_; rw [hc]) | with_reducible refine LC.at ?_ | wp_step))
  refine exc_class_get X Z hx hc ?_
  repeat (any_goals (first | assumption | wp_step))

theorem exc_class_by {tk : Tok} {Q : Value → Shared → Prop} (X : K.In h) (Z : ExcK K C) (hx : h.get? a = some o) (hc : o.cls = .ref C) (hq : Q (.ref C) ⟨h, g, d, t, os⟩) :
    wpAny (model prog w) A (getAttrBy (.ref a) (.str "__class__" tk) false) Q E ⟨h, g, d, t, os⟩ := by
  have f3 := F.attr_ValueError.ga.bind (.ref a)
  have y2 : (Value.builtin "BaseException.__getattribute__" == Value.builtin "object.__getattribute__") = false := by decide +kernel
  have y1 : (onTheHeap (Value.ref C) && Value.builtin "BaseException.__getattribute__" == Value.builtin "object.__getattribute__") = false := by rw [y2]; rfl
  have L1 : PySem.W.Looks (model prog w) h (typeLookup (.ref C) "__getattribute__") (some (.builtin "BaseException.__getattribute__")) := PySem.W.looks_findIn X Z.ga
  have L2 : PySem.W.Looks (model prog w) h (typeLookup (.ref C) "__getattr__") none := PySem.W.looks_findIn X Z.gt
  repeat (any_goals (first | assumption | (with_reducible refine wpAny_loadPart_at hx ?_; rw [hc]) | with_reducible refine L1.at ?_ | with_reducible refine L2.at ?_ | wp_step))
  refine codeAny_call_builtin F.attr_ValueError.ga.plain F.entry_bexc_ga (exc_ga_check X Z hx hc (exc_ga_entry X Z hx hc ?_))
  repeat (any_goals (first | assumption | wp_step))

theorem exc_class_attr {Q : Option Value → Shared → Prop} (X : K.In h) (Z : ExcK K C) (hx : h.get? a = some o) (hc : o.cls = .ref C) (hq : Q (some (.ref C)) ⟨h, g, d, t + 1, os⟩) :
    wpAny (model prog w) A (getAttr? (.ref a) "__class__") Q E ⟨h, g, d, t, os⟩ := by
  unfold getAttr? getAttrBy?
  repeat (any_goals (first | assumption | with_reducible apply exc_class_by X Z hx hc | wp_step))

theorem kitx_exc (Z : ExcK K C) : PySem.W.KitX K (.ref a) (.ref C) (fun h => ∃ o, h.get? a = some o ∧ o.cls = .ref C) where
  ty := fun _ _ _ ⟨o, h1, h2⟩ => h2 ▸ (PySem.W.Looks.ld h1).andThen .now
  it := fun _ _ X _ => by
    have hcD := Z.hc
    unfold PySem.W.clsIn at hcD
    split at hcD
    · next ho =>
      intro A' Q' E' s' k q
      unfold isType loadHead
      exact wpAny_bind (wpAny_loadPart (k _ _ (X _ _ ho)) (wpAny_pure q))
    · cases hcD
  ne := fun h tp dd its n sl X htp => by
    refine Bool.eq_false_iff.mpr fun q => ?_
    have e : C = tp := Value.ref.inj (beq_iff_eq.mp q)
    subst e
    have hcD := Z.hc
    unfold PySem.W.clsIn at hcD
    split at hcD
    · next ho =>
      have z := (X _ _ ho).symm.trans htp
      cases z
    · cases hcD
  ca := fun {_ _ _ _ _ s} X p k => by
    obtain ⟨h, g, d, t, os⟩ := s
    obtain ⟨o, h1, h2⟩ := p
    exact exc_class_attr X Z h1 h2 k
end

section
variable {X : Cx}
def cV : V → Value
  | .ref a => .ref a
  | .ty n => .type n
  | _ => .none
theorem call_isinstE : CallR X (.builtin "isinstance") (fun xs H Q => ∃ a C y b, xs = [.ref a, y] ∧ H a = some (excO a C) ∧ ExcK X.K C ∧ ((∃ c, y = .ref c) ∨ ∃ n, y = .ty n) ∧ PySem.W.kitOne X.K (.ref C) (cV y) = some b ∧ Q (.bl b) H) := by
  intro pins s σ H xs us Q I r h
  obtain ⟨a, C, y, b, rfl, ha, Z, hy, e, q⟩ := h
  obtain ⟨u, v, rfl, rx, ry⟩ := vals2 r
  cases rx
  obtain ⟨p, _⟩ := (show ObjOk X.prog X.w H s.heap a (excO a C) from I.hok a _ ha)
  have ev : v = cV y := by
    rcases hy with ⟨c, rfl⟩ | ⟨n, rfl⟩
    · exact ry
    · exact ry
  subst ev
  exact PySem.W.kia_one (kitx_exc Z) I.kIn p e (fun z => nomatch z) fun tk => ⟨.bl b, H, I.tok tk, rfl, q⟩

theorem call_isinstEK {K : PySem.W.Frag} (hK : X.K = K) : CallR X (.builtin "isinstance") (fun xs H Q => ∃ a C y b, xs = [.ref a, y] ∧ H a = some (excO a C) ∧ ExcK K C ∧ ((∃ c, y = .ref c) ∨ ∃ n, y = .ty n) ∧ PySem.W.kitOne K (.ref C) (cV y) = some b ∧ Q (.bl b) H) := by
  subst hK
  exact call_isinstE
def Itv (K : PySem.W.Frag) (a : Addr) (n : Nat) : It :=
  ⟨fun i H => i < n ∧ ∃ xs, SqL K H a xs ∧ xs.length = n, fun i H x H' => H' = H ∧ ∀ xs, SqL K H a xs → xs[n - 1 - i]? = some x, fun i H => i = n⟩
theorem turn_rev {P : Program} {w : World} {K : PySem.W.Frag} {tg : Expr} (a it : Addr) (n : Nat) : Turn P w K tg (Itv K a n) [it] it (fun i h => h.IsRevIter it a ((n : Int) - 1 - (i : Int))) where
  mem := by simp
  obj := fun i h st b hb => by
    have e : b = it := by simpa using hb
    subst e
    obtain ⟨o, e, c, d⟩ := st
    exact ⟨o, e, fun v z => by rw [d] at z; cases z⟩
  keep := fun i h h' st k => st.at fun o e => k it (by simp) o e
  item := by
    intro X hP hw hK hc i pins s σ H E I hf st hg
    subst hP hw hK
    obtain ⟨hi, xs, hq, hn⟩ := hg
    obtain ⟨its, rv, p, hz⟩ := I.list hq
    have hx : xs[n - 1 - i]? = some (xs[n - 1 - i]'(by omega)) := List.getElem?_eq_getElem _
    obtain ⟨u, hu, ru⟩ := rv.get hx
    obtain ⟨f0, f1, f2, f3, f4, f5⟩ := hf it (by simp)
    have e1 : (n : Int) - 1 - (i : Int) = ((n - 1 - i : Nat) : Int) := by omega
    rw [e1] at st
    refine wpAny_pyNext_rev_item st p.isList (x := u) (by simpa using hu) fun h' st' sb => ?_
    have I1 : Inv X pins σ H { s with heap := h' } := I.turned (t' := s.toks) (fun b o hb e => (sb.2 b hb).trans e) f0 f1 f3 f4 f5
    obtain ⟨o, e, c, d⟩ := id st'
    have e2 : ((n - 1 - i : Nat) : Int) - 1 = (n : Int) - 1 - ((i + 1 : Nat) : Int) := by omega
    rw [e2] at st'
    exact ⟨u, rfl, go_of (s := { s with heap := h' }) e c d (by decide) ⟨_, H, I1, ru, ⟨rfl, fun ys hy => by rw [I.list_inj hy hq]; exact hx⟩, st', fun b hb => (hf b hb).1⟩⟩
  done := by
    intro X hP hw hK hc i pins s σ H E I hf st hg
    subst hP hw hK
    have hg : i = n := hg
    subst hg
    obtain ⟨f0, f1, f2, f3, f4, f5⟩ := hf it (by simp)
    have e1 : (i : Int) - 1 - (i : Int) = -1 := by omega
    rw [e1] at st
    exact wpAny_pyNext_rev_end (I.ok.hd hc) st fun h' eb => ⟨rfl, I.turned (t' := s.toks) (fun b o hb e => eb b o hb e) f0 f1 f3 f4 f5⟩
  self := fun _ _ _ _ _ st h => wpAny_pyIter_revIter st h
def iRev (K : PySem.W.Frag) (ta : TA) : TI := fun σ H R => ta σ H fun vs H1 => ∃ a xs, vs = [.ref a] ∧ SqL K H1 a xs ∧ R (Itv K a xs.length) H1
theorem pi_rev {tg l : Expr} {ta : TA} {p pos : Pos} (hg : Gl X "reversed") (hm : X.mg "reversed" = none) (ha : PA X [l] ta) (hs : starEach [l] X.env = [(false, eval l X.env)] := by rfl) :
    PI X tg (.Call (.Name "reversed" p) [l] [] pos) (iRev X.K ta) := by
  intro pins s σ H R I h
  refine wpAny_Call_Name_kw (ld_blt I hg hm boot_reversed ?_ (by decide) (by decide))
  refine PyProof.Rows.callWith_type1 (thn (ha pos pins s σ H _ I h) fun us s1 h1 => ?_) hs rfl
  obtain ⟨vs, H1, I1, r1, a, xs, rfl, hq, q⟩ := h1
  obtain ⟨u, rfl, rx⟩ := vals1 r1
  cases rx
  obtain ⟨its, rv, pl, hz⟩ := I1.list hq
  have hlen := rv.length
  refine call_reversed_list pl.isList ?_
  have I2 : Inv X pins σ H1 { s1 with heap := s1.heap.push (revObj a ((its.toArray.size : Int) - 1)) } := I1.kept (t' := s1.toks) fun b o z => Heap.get?_push_of_some _ z
  have st : (s1.heap.push (revObj a ((its.toArray.size : Int) - 1))).IsRevIter s1.heap.objs.size a ((its.toArray.size : Int) - 1) := ⟨_, Heap.get?_push_size _ rfl, rfl, rfl⟩
  refine wpAny_pyIter_revIter (s := { s1 with heap := s1.heap.push (revObj a ((its.toArray.size : Int) - 1)) }) st ?_
  have e : ((its.toArray.size : Int) - 1) = (xs.length : Int) - 1 - ((0 : Nat) : Int) := by rw [List.size_toArray]; omega
  rw [e] at st I2 ⊢
  refine ⟨s1.heap.objs.size, [s1.heap.objs.size], _, _, H1, rfl, I2, turn_rev a _ xs.length, st, fun b hb => ?_, q⟩
  have z : b = s1.heap.objs.size := by simpa using hb
  rw [z]
  exact I1.fpOk (Nat.le_refl _) (I1.hok.fresh (Nat.le_refl _))
end
section
variable {K : PySem.W.Frag} {a : Addr} {xs : List V} {g : TG} {tt : TT} {te : TE} {Q : VK} {D : Addr} {σ : St} {H : Hp}
theorem comp_rev {n : Nat} (hn : n = xs.length) (Pv : Nat → List V → St → Hp → Prop) (h0 : Pv 0 [] σ (upd H D (.lst []))) (hl : ∀ i ys σ H, i ≤ xs.length → Pv i ys σ H → SqL K H a xs)
    (hs : ∀ i x ys σ H, xs.reverse[i]? = some x → Pv i ys σ H → g x σ H fun σ3 H3 => tt σ3 H3 fun b H4 => if b = true then te σ3 H4 fun v H5 => H5 D = some (.lst ys) ∧ ys.length < sizeLine ∧ Pv (i + 1) (ys ++ [v]) σ3 (upd H5 D (.lst (ys ++ [v]))) else Pv (i + 1) ys σ3 H4)
    (hd : ∀ ys σ H, Pv xs.length ys σ H → Q (.ref D) H) : CompW (Itv K a n) g tt te Q D σ H := by
  subst hn
  refine ⟨fun i m ys σ H => m = xs.length - i ∧ i ≤ xs.length ∧ Pv i ys σ H, ⟨xs.length, by simp, Nat.zero_le _, h0⟩, ?_⟩
  rintro i m ys σ H ⟨rfl, hi, p⟩
  have q := hl i ys σ H hi p
  by_cases hlt : i < xs.length
  · refine .inr ⟨⟨hlt, xs, q, rfl⟩, Pv (i + 1), fun ys' σ' H' p' => ⟨xs.length - (i + 1), by omega, rfl, hlt, p'⟩, fun x H' y => ?_⟩
    obtain ⟨e, y⟩ := y
    subst e
    exact hs i x ys σ _ (by rw [List.getElem?_reverse hlt]; exact y xs q) p
  · have e : i = xs.length := by omega
    subst e
    exact .inl ⟨rfl, hd ys σ H p⟩
end
end L3

set_option Elab.async false
set_option linter.all false
set_option maxRecDepth 100000
set_option maxHeartbeats 4000000
namespace L3
open PySem PySem.Spec PyProof.Rows L2 PySem.Builtin PySem.Builtin.Str

section
variable {X : Cx}
end

end L3

set_option Elab.async false
set_option linter.all false
set_option maxRecDepth 100000
set_option maxHeartbeats 4000000
namespace L3
open PySem PySem.Spec PyProof.Rows L2
section
variable {X : Cx}
end
end L3

set_option Elab.async false
set_option linter.all false
set_option maxRecDepth 100000
set_option maxHeartbeats 4000000
namespace L3
open PySem PySem.Spec PyProof.Rows L2
section
variable {X : Cx}
def rIndex (K : PySem.W.Frag) : V → List V → Hp → VK → Prop := fun x vs H Q => ∃ (p : Addr) (ns : List Int) (v : Int) (j : Nat), x = .ref p ∧ vs = [.int v] ∧ SqL K H p (ns.map V.int) ∧ j < ns.length ∧ ns.getD j 0 = v ∧ (∀ m : Nat, m < j → ns.getD m 0 ≠ v) ∧ Q (.int (j : Int)) H
theorem flat_ints (ns : List Int) : (ns.map V.int).all flatV = true := by
  rw [List.all_eq_true]
  intro v hv
  obtain ⟨z, _, e⟩ := List.mem_map.mp hv
  rw [← e]
  rfl
theorem mt_index : MtM X "list.index" (rIndex X.K) := by
  intro pins s σ H x vs v us Q I rx rv h
  obtain ⟨p, ns, k, j, rfl, rfl, hq, hj, hv, hno, q⟩ := h
  cases rx
  obtain ⟨u, rfl, ⟨t, rfl⟩⟩ := rv.one
  obtain ⟨its, r, pl, hz⟩ := I.list hq
  have hlen := r.length
  rw [List.length_map] at hlen
  obtain ⟨o, n, ho, hc, hd, hs⟩ := id pl
  have hsz : sizeLine = 16777216 := sizeLine_eq
  have hat : ∀ (m : Nat) (hm : m < its.toArray.size), eqU (V.int k) (its.toArray[m]) = (ns.getD m 0 == k) := fun m hm => by
    have hm' : m < ns.length := by rw [List.size_toArray] at hm; omega
    obtain ⟨w, ew, ⟨tw, rw'⟩⟩ := r.get (i := m) (x := V.int (ns.getD m 0)) (by rw [List.getElem?_map, List.getD_eq_getElem?_getD, List.getElem?_eq_getElem hm']; rfl)
    have e : its.toArray[m] = w := by
      have : its[m]? = some (its.toArray[m]) := by simp
      rw [this] at ew
      exact Option.some.inj ew
    rw [e, rw']
    rfl
  obtain ⟨oc, od, odt, osl⟩ := o
  dsimp only at hc hd hs
  subst hc
  subst hs
  refine call_meets F.slot_list_index ⟨_, ho, rfl⟩ F.entry_list_index (F.args_list_index_2 _ _) (SeqAt.list_indexAt p its.toArray n od osl (.int k t) (eqU (V.int k)) j (by rw [List.size_toArray]; omega) (by rw [List.length_map] at hz; omega) ?_ ?_) ⟨ho, ?_, ?_⟩
  · rw [hat, hv]
    simp
  · intro m hm hmj
    rw [hat]
    simpa using hno m hmj
  · intro y hy
    exact mem_eqAt (x := V.int k) ⟨t, rfl⟩ rfl r (flat_ints ns) y (by simpa using hy)
  · exact ⟨.int (j : Int), H, I.tok _, ⟨_, rfl⟩, q⟩
end
end L3

set_option Elab.async false
set_option linter.all false
set_option maxRecDepth 100000
set_option maxHeartbeats 4000000
namespace L3
open PySem PySem.Spec PyProof.Rows L2
section
variable {X : Cx}
end
section
variable {K : PySem.W.Frag} {a b : Addr} {xs ys : List V} {g : TG} {tt : TT} {te : TE} {Q : VK} {D : Addr} {σ : St} {H : Hp}
end
end L3

set_option Elab.async false
set_option linter.all false
set_option maxRecDepth 100000
set_option maxHeartbeats 4000000
namespace L3
open PySem PySem.Spec PyProof.Rows L2
section
variable {P : Program} {w : World} {A : Around} {R : Result → Shared → Prop}
end
section
variable {X : Cx}
end

section
variable {X : Cx} {k : Nat} {f : Addr} {fd : FuncData} {ps : List Str} {sp : Sp} {dvs : List V} {ds : List Value} {x : Str} {p pos : Pos} {e : Expr} {es : List Expr} {t : TA}
end
end L3

set_option Elab.async false
set_option linter.all false
set_option maxRecDepth 100000
set_option maxHeartbeats 4000000
namespace L3
open PySem PySem.Spec PyProof.Rows L2
section
variable {X : Cx}
theorem log2_small {n k : Nat} (h : n < 2 ^ k) (hk : 0 < k) : n.log2 < k := by
  rcases Nat.eq_zero_or_pos n with h0 | hp
  · rw [h0]; exact hk
  · exact (Nat.log2_lt (Nat.ne_of_gt hp)).mpr h
theorem bits_small {i : Int} {k : Nat} (h : i.natAbs < 2 ^ k) (hk : 0 < k) : Builtin.Int.intBits i ≤ k := by
  unfold Builtin.Int.intBits
  split
  · exact Nat.zero_le _
  · have := log2_small h hk; omega
theorem op_mulB : OpR X (binaryOp .Mult) (rI (fun i j => i.natAbs < 2 ^ 4000 ∧ j.natAbs < 2 ^ 4000) fun i j => .int (i * j)) := opI fun i j _ _ _ _ _ hc q => mul_int q (by
  have a := bits_small hc.1 (by decide)
  have b := bits_small hc.2 (by decide)
  unfold IntMulOk
  intro z
  have z' := (Bool.and_eq_true_iff.mp z).2
  unfold Builtin.Int.intTooBig at z'
  have z2 := of_decide_eq_true z'
  have : (bitsLine : Int) ≥ 8000 := by decide +kernel
  omega)
theorem op_fdivB : OpR X (binaryOp .FloorDiv) (rI (fun _ j => 0 < j ∧ j.natAbs < 2 ^ 1000) fun i j => .int (i / j)) := opI fun i j _ _ _ _ _ hc q => by
  have h1 : (0 : Int) < j := hc.1
  exact floordiv_int (by omega) (by rw [Int.fdiv_eq_ediv_of_nonneg i (by omega)]; exact q) (.inl (PyProof.noPylong_of_log2 (Nat.lt_trans (log2_small hc.2 (by decide)) (by decide))))
theorem call_sum_any (hc : X.calm = true) : CallR X (.builtin "sum") (fun xs H Q => ∃ (p : Addr) (ns : List Int), xs = [.ref p] ∧ SqL X.K H p (ns.map V.int) ∧ Q (.int ns.sum) H) := by
  intro pins s σ H xs us Q I r h
  obtain ⟨p, ns, rfl, hq, q⟩ := h
  obtain ⟨u, rfl, rx⟩ := vals1 r
  cases rx
  obtain ⟨its, r', pl, hz⟩ := I.list hq
  have hI := intsAre_of r'
  obtain ⟨xs, e⟩ := hI.allInts.items
  have hns : ns = xs.toList.map (·.1) := by rw [← hI.numsOf, ← nums_intItems, ← e]
  have hl := pl.isList
  rw [e] at hl
  have hnum : ∀ j, numAt xs j = ns.getD j 0 := fun j => by rw [hns]; exact numAt_eq xs j
  have hpre : ∀ j, preSum (numAt xs) j = (ns.take j).sum := fun j => by
    have e2 : numAt xs = fun i => ns.getD i 0 := funext hnum
    rw [e2]; exact preSum_getD ns j
  have hsz : ns.length = xs.size := by rw [hns, List.length_map, Array.length_toList]
  refine sum_intListG (I.ok.hd hc) hl fun h' tk t' hk => ?_
  refine ⟨.int ns.sum, H, I.kept (t' := tk) hk, ⟨t', ?_⟩, q⟩
  rw [hpre, ← hsz, List.take_length]
end
end L3

set_option Elab.async false
set_option linter.all false
set_option maxRecDepth 100000
set_option maxHeartbeats 4000000
namespace Rb
open PySem L2 L3 PyProof.Rows
def top (i : Nat) : Stmt := PySem.Challenge.pw_rodbeads_k16_whole_ways_down.main.body.getD i (.Pass ⟨0, 0, 0, 0⟩)
abbrev s_beads : Stmt := top 6
abbrev s_row_of : Stmt := top 7
abbrev s_check_places : Stmt := top 8
abbrev s_quotient : Stmt := top 10
abbrev s_check_rods : Stmt := top 11
abbrev s_share : Stmt := top 12
abbrev s_parted : Stmt := top 13
abbrev s_heights_on : Stmt := top 14
abbrev s_turned : Stmt := top 16
abbrev s_lines_at : Stmt := top 17
abbrev s_hooks : Stmt := top 18
abbrev s_line_hooks : Stmt := top 19
abbrev s_fillings : Stmt := top 21
abbrev s_product_to : Stmt := top 22
abbrev s_lesser : Stmt := top 24
abbrev s_without_rim : Stmt := top 25
abbrev s_ways_down : Stmt := top 26
abbrev s_mixes : Stmt := top 27
abbrev s_ldrawn : Stmt := top 29
abbrev s_lwhole : Stmt := top 30
abbrev s_lrow_by : Stmt := top 33
abbrev s_lrefused : Stmt := top 34
abbrev s_law : Stmt := top 35
theorem sc_beads : FnScope ["row", "many", "spare", "gaps"] ["row", "many"] (defScope s_beads) := ⟨rfl, rfl, rfl, by decide +kernel, rfl, by decide +kernel, by decide +kernel⟩
theorem sc_row_of : FnScope ["places", "gaps"] ["places"] (defScope s_row_of) := ⟨rfl, rfl, rfl, by decide +kernel, rfl, by decide +kernel, by decide +kernel⟩
theorem sc_check_places : FnScope ["places", "last", "place"] ["places"] (defScope s_check_places) := ⟨rfl, rfl, rfl, by decide +kernel, rfl, by decide +kernel, by decide +kernel⟩
theorem sc_quotient : FnScope ["row", "rods"] ["row", "rods"] (defScope s_quotient) := ⟨rfl, rfl, rfl, by decide +kernel, rfl, by decide +kernel, by decide +kernel⟩
theorem sc_check_rods : FnScope ["rods"] ["rods"] (defScope s_check_rods) := ⟨rfl, rfl, rfl, by decide +kernel, rfl, by decide +kernel, by decide +kernel⟩
theorem sc_share : FnScope ["row", "rods"] ["row", "rods"] (defScope s_share) := ⟨rfl, rfl, rfl, by decide +kernel, rfl, by decide +kernel, by decide +kernel⟩
theorem sc_parted : FnScope ["row", "rods", "places"] ["row", "rods"] (defScope s_parted) := ⟨rfl, rfl, rfl, by decide +kernel, rfl, by decide +kernel, by decide +kernel⟩
theorem sc_heights_on : FnScope ["places", "rods", "rod"] ["places", "rods", "rod"] (defScope s_heights_on) := ⟨rfl, rfl, rfl, by decide +kernel, rfl, by decide +kernel, by decide +kernel⟩
theorem sc_turned : FnScope ["row", "width"] ["row"] (defScope s_turned) := ⟨rfl, rfl, rfl, by decide +kernel, rfl, by decide +kernel, by decide +kernel⟩
theorem sc_lines_at : FnScope ["row", "place"] ["row", "place"] (defScope s_lines_at) := ⟨rfl, rfl, rfl, by decide +kernel, rfl, by decide +kernel, by decide +kernel⟩
theorem sc_hooks : FnScope ["row", "columns"] ["row"] (defScope s_hooks) := ⟨rfl, rfl, rfl, by decide +kernel, rfl, by decide +kernel, by decide +kernel⟩
theorem sc_line_hooks : FnScope ["row", "columns", "line", "found", "place", "behind", "below"] ["row", "columns", "line"] (defScope s_line_hooks) := ⟨rfl, rfl, rfl, by decide +kernel, rfl, by decide +kernel, by decide +kernel⟩
theorem sc_fillings : FnScope ["row", "divisor", "line", "hook"] ["row"] (defScope s_fillings) := ⟨rfl, rfl, rfl, by decide +kernel, rfl, by decide +kernel, by decide +kernel⟩
theorem sc_product_to : FnScope ["number", "product", "factor"] ["number"] (defScope s_product_to) := ⟨rfl, rfl, rfl, by decide +kernel, rfl, by decide +kernel, by decide +kernel⟩
theorem sc_lesser : FnScope ["row", "rods", "found", "line", "numbers"] ["row", "rods"] (defScope s_lesser) := ⟨rfl, rfl, rfl, by decide +kernel, rfl, by decide +kernel, by decide +kernel⟩
theorem sc_without_rim : FnScope ["row", "line", "place", "last", "moved", "numbers"] ["row", "line", "place"] (defScope s_without_rim) := ⟨rfl, rfl, rfl, by decide +kernel, rfl, by decide +kernel, by decide +kernel⟩
theorem sc_ways_down : FnScope ["row", "rods", "rows", "ways", "numbers"] ["row", "rods"] (defScope s_ways_down) := ⟨rfl, rfl, rfl, by decide +kernel, rfl, by decide +kernel, by decide +kernel⟩
theorem sc_mixes : FnScope ["sizes", "ways", "size"] ["sizes"] (defScope s_mixes) := ⟨rfl, rfl, rfl, by decide +kernel, rfl, by decide +kernel, by decide +kernel⟩
theorem sc_ldrawn : FnScope ["script", "k", "many", "cell", "mixed"] ["script", "k", "many"] (defScope s_ldrawn) := ⟨rfl, rfl, rfl, by decide +kernel, rfl, by decide +kernel, by decide +kernel⟩
theorem sc_lwhole : FnScope ["found"] ["found"] (defScope s_lwhole) := ⟨rfl, rfl, rfl, by decide +kernel, rfl, by decide +kernel, by decide +kernel⟩
theorem sc_lrow_by : FnScope ["script", "base", "most", "left", "row", "greatest", "bound", "step"] ["script", "base", "most"] (defScope s_lrow_by) := ⟨rfl, rfl, rfl, by decide +kernel, rfl, by decide +kernel, by decide +kernel⟩
theorem sc_lrefused : FnScope ["row", "rods", "e"] ["row", "rods"] (defScope s_lrefused) := ⟨rfl, rfl, rfl, by decide +kernel, rfl, by decide +kernel, by decide +kernel⟩
theorem sc_law : FnScope ["script", "row", "rods", "handed", "found", "some", "due"] ["script"] (defScope s_law) := ⟨rfl, rfl, rfl, by decide +kernel, rfl, by decide +kernel, by decide +kernel⟩
theorem call_sum_intsK {X : Cx} {K : PySem.W.Frag} (hK : X.K = K) (hc : X.calm = true) : CallR X (.builtin "sum") (fun xs H Q => ∃ (p : Addr) (ns : List Int), xs = [.ref p] ∧ SqL K H p (ns.map V.int) ∧ ns.length ≤ 2 ^ 20 ∧ (∀ x ∈ ns, -(2 ^ 40) ≤ x ∧ x ≤ 2 ^ 40) ∧ Q (.int ns.sum) H) := by
  subst hK
  exact call_sum_ints hc

def IsRow (ns : List Int) : Prop := (∀ j : Nat, j < ns.length → 1 ≤ ns.getD j 0) ∧ ∀ j : Nat, j + 1 < ns.length → ns.getD (j + 1) 0 ≤ ns.getD j 0
theorem getD_of {ns : List Int} {j : Nat} (h : j < ns.length) : ns[j]? = some (ns.getD j 0) := by
  rw [List.getD_eq_getElem?_getD, List.getElem?_eq_getElem h]; rfl
theorem at_int {ns : List Int} {i : Int} (h0 : 0 ≤ i) (h : i < (ns.length : Int)) : atI (ns.map V.int) i = some (.int (ns.getD i.toNat 0)) := by
  have hk : i.toNat < ns.length := by omega
  have ek : i = ((i.toNat : Nat) : Int) := by omega
  have q : atI (ns.map V.int) ((i.toNat : Nat) : Int) = some (.int (ns.getD i.toNat 0)) := atI_nat (by rw [List.getElem?_map, getD_of hk]; rfl)
  rw [← ek] at q
  exact q
theorem getD_take {ns : List Int} {i j : Nat} (h : j < i) : (ns.take i).getD j 0 = ns.getD j 0 := by
  rw [List.getD_eq_getElem?_getD, List.getD_eq_getElem?_getD, List.getElem?_take_of_lt h]
theorem isRow_nil : IsRow [] := ⟨fun j h => absurd h (Nat.not_lt_zero j), fun j h => absurd h (Nat.not_lt_zero _)⟩
theorem fall_le {ns : List Int} (h : ∀ j : Nat, j + 1 < ns.length → ns.getD (j + 1) 0 ≤ ns.getD j 0) : ∀ (k i : Nat), i + k < ns.length → ns.getD (i + k) 0 ≤ ns.getD i 0
  | 0, i, _ => Int.le_refl _
  | k + 1, i, hk => by
    have a := fall_le h k i (by omega)
    have b := h (i + k) (by omega)
    have e : i + (k + 1) = i + k + 1 := by omega
    rw [e]; omega
theorem getD_elem {ns : List Int} {j : Nat} (h : j < ns.length) : ns[j] = ns.getD j 0 := by
  rw [List.getD_eq_getElem?_getD, List.getElem?_eq_getElem h]; rfl
theorem fall_pair {ns : List Int} : (∀ j : Nat, j + 1 < ns.length → ns.getD (j + 1) 0 ≤ ns.getD j 0) ↔ ns.Pairwise (fun a b => b ≤ a) := by
  rw [List.pairwise_iff_getElem]
  constructor
  · intro h i j hi hj hij
    rw [getD_elem hi, getD_elem hj]
    have e : j = i + (j - i) := by omega
    rw [e]
    exact fall_le h (j - i) i (by omega)
  · intro h j hj
    have := h j (j + 1) (by omega) hj (by omega)
    rw [getD_elem, getD_elem] at this
    exact this
theorem isRow_iff {ns : List Int} : IsRow ns ↔ (∀ x ∈ ns, 1 ≤ x) ∧ ns.Pairwise (fun a b => b ≤ a) := by
  unfold IsRow
  rw [fall_pair]
  refine and_congr_left fun _ => ⟨fun h x hx => ?_, fun h j hj => ?_⟩
  · obtain ⟨j, hj, e⟩ := List.getElem_of_mem hx
    have := h j hj
    rw [← getD_elem hj, e] at this
    exact this
  · rw [← getD_elem hj]
    exact h _ (List.getElem_mem hj)

theorem sort_one : ∀ {xs ys : List Int}, xs.Perm ys → xs.Pairwise (· ≤ ·) → ys.Pairwise (· ≤ ·) → xs = ys
  | [], ys, p, _, _ => (List.nil_perm.mp p).symm
  | x :: xs, [], p, _, _ => absurd (List.perm_nil.mp p) (by simp)
  | x :: xs, y :: ys, p, h1, h2 => by
    have a1 := List.pairwise_cons.mp h1
    have a2 := List.pairwise_cons.mp h2
    have e : x = y := by
      have m1 : x ∈ y :: ys := p.subset (List.mem_cons_self ..)
      have m2 : y ∈ x :: xs := p.symm.subset (List.mem_cons_self ..)
      rcases List.mem_cons.mp m1 with z | z
      · exact z
      · rcases List.mem_cons.mp m2 with z' | z'
        · exact z'.symm
        · have b1 := a1.1 y z'
          have b2 := a2.1 x z
          omega
    subst e
    rw [sort_one ((List.perm_cons x).mp p) a1.2 a2.2]
theorem getD_app_left {r : List Int} {x : Int} {j : Nat} (h : j < r.length) : (r ++ [x]).getD j 0 = r.getD j 0 := by
  rw [List.getD_eq_getElem?_getD, List.getD_eq_getElem?_getD, List.getElem?_append_left h]
theorem getD_app_last {r : List Int} {x : Int} : (r ++ [x]).getD r.length 0 = x := by
  rw [List.getD_eq_getElem?_getD, List.getElem?_append_right (Nat.le_refl _), Nat.sub_self]; rfl
theorem isRow_snoc {r : List Int} {x : Int} (h : IsRow r) (h1 : 1 ≤ x) (h2 : r = [] ∨ x ≤ r.getD (r.length - 1) 0) : IsRow (r ++ [x]) := by
  have e : (r ++ [x]).length = r.length + 1 := by rw [List.length_append]; rfl
  refine ⟨fun j hj => ?_, fun j hj => ?_⟩
  · rw [e] at hj
    by_cases z : j = r.length
    · rw [z, getD_app_last]; exact h1
    · rw [getD_app_left (by omega)]; exact h.1 j (by omega)
  · rw [e] at hj
    by_cases z : j + 1 = r.length
    · rw [z, getD_app_last, getD_app_left (by omega)]
      rcases h2 with h2 | h2
      · rw [h2] at z; cases z
      · have ez : r.length - 1 = j := by omega
        rw [ez] at h2; exact h2
    · rw [getD_app_left (by omega), getD_app_left (by omega)]; exact h.2 j (by omega)
theorem sum_snoc (r : List Int) (x : Int) : (r ++ [x]).sum = r.sum + x := by
  rw [List.sum_append]; simp
theorem row_len {r : List Int} (h : IsRow r) : (r.length : Int) ≤ r.sum := by
  have h' := (isRow_iff.mp h).1
  clear h
  induction r with
  | nil => exact Int.le_refl _
  | cons x r ih =>
    have a := ih fun y hy => h' y (List.mem_cons_of_mem _ hy)
    have b := h' x (List.mem_cons_self ..)
    rw [List.sum_cons, List.length_cons]
    omega


def linesAt (r : List Int) (j : Int) : Nat := (r.filter fun n => decide (j < n)).length
theorem linesAt_nil (j : Int) : linesAt [] j = 0 := rfl
theorem linesAt_cons (x : Int) (r : List Int) (j : Int) : linesAt (x :: r) j = (if j < x then 1 else 0) + linesAt r j := by
  unfold linesAt
  rw [List.filter_cons]
  by_cases h : j < x
  · rw [if_pos (by simpa using h), if_pos h, List.length_cons]; omega
  · rw [if_neg (by simpa using h), if_neg h]; omega
theorem linesAt_append (a b : List Int) (j : Int) : linesAt (a ++ b) j = linesAt a j + linesAt b j := by
  unfold linesAt
  rw [List.filter_append, List.length_append]
theorem linesAt_all {r : List Int} {j : Int} (h : ∀ x ∈ r, j < x) : linesAt r j = r.length := by
  unfold linesAt
  rw [List.filter_eq_self.mpr fun x hx => by simpa using h x hx]
theorem linesAt_none {r : List Int} {j : Int} (h : ∀ x ∈ r, ¬ j < x) : linesAt r j = 0 := by
  unfold linesAt
  rw [List.filter_eq_nil_iff.mpr fun x hx => by simpa using h x hx]
  rfl
theorem linesAt_le (r : List Int) (j : Int) : linesAt r j ≤ r.length := List.length_filter_le _ _
theorem cnt_gt {r : List Int} (hp : r.Pairwise (fun a b => b ≤ a)) (j : Int) : ∀ k : Nat, k < linesAt r j ↔ k < r.length ∧ j < r.getD k 0 := by
  induction r with
  | nil => intro k; rw [linesAt_nil]; simp
  | cons x r ih =>
    intro k
    obtain ⟨h1, h2⟩ := List.pairwise_cons.mp hp
    rw [linesAt_cons]
    by_cases hx : j < x
    · rw [if_pos hx]
      cases k with
      | zero => simp [hx]; omega
      | succ k =>
        have := ih h2 k
        rw [List.length_cons, List.getD_cons_succ]
        omega
    · rw [if_neg hx, linesAt_none fun y hy => by have := h1 y hy; omega]
      refine ⟨fun z => by omega, fun z => ?_⟩
      exfalso
      cases k with
      | zero => simp at z; omega
      | succ k =>
        rw [List.length_cons, List.getD_cons_succ] at z
        have hm : r.getD k 0 ∈ r := by
          rw [List.getD_eq_getElem?_getD, List.getElem?_eq_getElem (by omega)]
          exact List.getElem_mem _
        have := h1 _ hm
        omega
def turnedM (r : List Int) : List Int := (List.range (r.headD 0).toNat).map fun j => ((linesAt r (j : Nat) : Nat) : Int)
theorem turned_len (r : List Int) : (turnedM r).length = (r.headD 0).toNat := by
  unfold turnedM; rw [List.length_map, List.length_range]
theorem turned_at {r : List Int} {j : Nat} (h : j < (r.headD 0).toNat) : (turnedM r).getD j 0 = (linesAt r j : Int) := by
  unfold turnedM
  rw [List.getD_eq_getElem?_getD, List.getElem?_map, List.getElem?_range h]
  rfl
theorem head_is {r : List Int} (h : r ≠ []) : r.headD 0 = r.getD 0 0 := by
  cases r with
  | nil => exact absurd rfl h
  | cons x r => rfl
theorem hook_two {r : List Int} (hp : r.Pairwise (fun a b => b ≤ a)) {k : Nat} (hk : k < r.length) {j : Int} (hj : j < r.getD k 0) : linesAt r j = k + 1 + linesAt (r.drop (k + 1)) j := by
  have e : r = r.take (k + 1) ++ r.drop (k + 1) := (List.take_append_drop _ _).symm
  have e1 : linesAt (r.take (k + 1)) j = k + 1 := by
    have hl : (r.take (k + 1)).length = k + 1 := by rw [List.length_take]; omega
    rw [linesAt_all fun x hx => ?_, hl]
    obtain ⟨i, hi, ex⟩ := List.getElem_of_mem hx
    rw [hl] at hi
    rw [List.getElem_take] at ex
    rw [List.pairwise_iff_getElem] at hp
    have hkk : r.getD k 0 = r[k] := by rw [List.getD_eq_getElem?_getD, List.getElem?_eq_getElem hk]; rfl
    rw [hkk] at hj
    by_cases z : i = k
    · subst z; omega
    · have := hp i k (by omega) hk (by omega)
      omega
  have := linesAt_append (r.take (k + 1)) (r.drop (k + 1)) j
  rw [← e] at this
  omega

def spDrawn (K : PySem.W.Frag) : Sp := fun vs H Q _ => ∃ (a : Addr) (ns : List Int) (k m : Int), vs = [.ref a, .int k, .int m] ∧ SqL K H a (ns.map V.int) ∧ ns.length ≤ 63 ∧ 0 ≤ k ∧ k ≤ 1000000 ∧ 0 < m ∧ ∀ d : Int, 0 ≤ d → d < m → Q (.int d) H
def spRowBy (K : PySem.W.Frag) : Sp := fun vs H Q _ => ∃ (a : Addr) (ns : List Int) (k m : Int), vs = [.ref a, .int k, .int m] ∧ SqL K H a (ns.map V.int) ∧ ns.length ≤ 63 ∧ 0 ≤ k ∧ k ≤ 1000 ∧ 0 < m ∧ m ≤ 60 ∧
  ∀ (p : Addr) (r : List Int) (H' : Hp), Same H H' → H p = none → IsRow r → r.sum ≤ m → (r.length : Int) ≤ m → H' p = some (.lst (r.map V.int)) → Q (.ref p) H'

def spWhole : Sp := fun vs H Q _ => ∃ i : Int, vs = [.int i] ∧ Q (.bl true) H
theorem kit_int_int {K : PySem.W.Frag} : PySem.W.kitOne K (.type "int") (.type "int") = some true := rfl
theorem kit_int_bool {K : PySem.W.Frag} : PySem.W.kitOne K (.type "int") (.type "bool") = some false := by
  unfold PySem.W.kitOne
  rw [if_neg (by decide)]
  with_unfolding_all rfl

def spLaw (K : PySem.W.Frag) : Sp := fun vs H Q _ => ∃ (a : Addr) (ns : List Int), vs = [.ref a] ∧ SqL K H a (ns.map V.int) ∧ ns.length ≤ 63 ∧ ∀ H', Q (.bl true) H'

def hookLine (r : List Int) (k : Nat) : List Int := (List.range (r.getD k 0).toNat).map fun (j : Nat) => r.getD k 0 - (j : Int) + (linesAt (r.drop (k + 1)) (j : Nat) : Int)
def hooksM (r : List Int) : List (List Int) := (List.range r.length).map (hookLine r)
theorem hooksM_len (r : List Int) : (hooksM r).length = r.length := by unfold hooksM; rw [List.length_map, List.length_range]
theorem hooksM_at {r : List Int} {k : Nat} (h : k < r.length) : (hooksM r).getD k [] = hookLine r k := by
  unfold hooksM
  rw [List.getD_eq_getElem?_getD, List.getElem?_map, List.getElem?_range h]
  rfl
theorem isRow_pair {r : List Int} (h : IsRow r) : r.Pairwise (fun a b => b ≤ a) := (isRow_iff.mp h).2
theorem isRow_pos {r : List Int} (h : IsRow r) : ∀ x ∈ r, 1 ≤ x := (isRow_iff.mp h).1
theorem row_le_head {r : List Int} (h : IsRow r) {k : Nat} (hk : k < r.length) : r.getD k 0 ≤ r.headD 0 := by
  have hne : r ≠ [] := fun z => by rw [z] at hk; cases hk
  rw [head_is hne]
  have := fall_le h.2 k 0 (by omega)
  rw [Nat.zero_add] at this
  exact this

def spLinesAt (K : PySem.W.Frag) : Sp := fun vs H Q _ => ∃ (a : Addr) (r : List Int) (j : Int), vs = [.ref a, .int j] ∧ SqL K H a (r.map V.int) ∧ r.length ≤ 1000 ∧ ∀ H', Same H H' → Q (.int (linesAt r j : Nat)) H'
def spTurned (K : PySem.W.Frag) : Sp := fun vs H Q _ => ∃ (a : Addr) (r : List Int), vs = [.ref a] ∧ SqL K H a (r.map V.int) ∧ r.length ≤ 1000 ∧ 0 ≤ r.headD 0 ∧ r.headD 0 ≤ 1000 ∧
  ∀ (p : Addr) (H' : Hp), Same H H' → H p = none → H' p = some (.lst ((turnedM r).map V.int)) → Q (.ref p) H'
def spLineHooks (K : PySem.W.Frag) : Sp := fun vs H Q _ => ∃ (a c : Addr) (r : List Int) (k : Int), vs = [.ref a, .ref c, .int k] ∧ SqL K H a (r.map V.int) ∧ SqL K H c ((turnedM r).map V.int) ∧ IsRow r ∧ r.length ≤ 1000 ∧ r.headD 0 ≤ 1000 ∧ 0 ≤ k ∧ k < (r.length : Int) ∧
  ∀ (p : Addr) (H' : Hp), Same H H' → H p = none → H' p = some (.lst ((hookLine r k.toNat).map V.int)) → Q (.ref p) H'
def spHooks (K : PySem.W.Frag) : Sp := fun vs H Q _ => ∃ (a : Addr) (r : List Int), vs = [.ref a] ∧ SqL K H a (r.map V.int) ∧ IsRow r ∧ r.length ≤ 1000 ∧ r.headD 0 ≤ 1000 ∧
  ∀ (p : Addr) (ps : List Addr) (H' : Hp), Same H H' → H p = none → LL H H' p ps (hooksM r) → Q (.ref p) H'

theorem row_head {r : List Int} (h : IsRow r) : 0 ≤ r.headD 0 ∧ r.headD 0 ≤ r.sum := by
  have hp := isRow_pos h
  clear h
  cases r with
  | nil => exact ⟨Int.le_refl _, Int.le_refl _⟩
  | cons x t =>
    have h0 : ∀ t : List Int, (∀ y ∈ t, 1 ≤ y) → 0 ≤ t.sum := fun t => by
      induction t with
      | nil => intro _; exact Int.le_refl _
      | cons y t ih =>
        intro hy
        have a := ih fun z hz => hy z (List.mem_cons_of_mem _ hz)
        have b := hy y (List.mem_cons_self ..)
        rw [List.sum_cons]; omega
    have a := h0 t fun z hz => hp z (List.mem_cons_of_mem _ hz)
    have b := hp x (List.mem_cons_self ..)
    rw [List.sum_cons]
    show 0 ≤ x ∧ x ≤ x + t.sum
    omega

theorem comp_gt {K : PySem.W.Frag} {a D : Addr} {r : List Int} {j : Int} {Q : VK} {H : Hp} (hS : SqL K H a (r.map V.int)) (hlen : r.length ≤ 1000) (hD : H D = none)
    (q : ∀ H', Same H H' → H' D = some (.lst ((r.filter fun n => decide (j < n)).map V.int)) → Q (.ref D) H') :
    CompW (Itl K a) (gName 0) (tTest (tOp (rI0 fun i j => .bl (decide (j < i))) (tVar 0) (tVar 1))) (tVar 0) Q D [none, some (.int j)] H := by
  have hl : (r.map V.int).length = r.length := List.length_map _
  refine comp_list (K := K) (a := a) (xs := r.map V.int) (fun i ys σ H2 => ∃ u : Option V, σ = [u, some (.int j)] ∧ Same H H2 ∧ H2 D = some (.lst ys) ∧ ys = ((r.take i).filter fun n => decide (j < n)).map V.int)
    ⟨none, rfl, same_new hD _, upd_same, rfl⟩ (fun i ys σ H2 _ ⟨_, _, s2, _⟩ => s2.seq hS) ?_ ?_
  · rintro i x ys σ H2 hi ⟨u, rfl, s2, hD2, rfl⟩
    have hil : i < (r.map V.int).length := (List.getElem?_eq_some_iff.mp hi).1
    rw [hl] at hil
    obtain rfl : x = V.int (r.getD i 0) := by
      rw [List.getElem?_map, getD_of hil] at hi
      exact (Option.some.inj hi).symm
    have step := take_succ_filter (fun n => decide (j < n)) r i (r.getD i 0) (getD_of hil)
    refine ⟨_, rfl, _, rfl, _, _, rfl, rfl, _, rfl, ?_⟩
    refine ite2 (fun c => ?_) (fun c => ?_)
    · refine ⟨_, rfl, hD2, ?_, _, rfl, same_upd s2 hD, upd_same, ?_⟩
      · have z := List.length_filter_le (fun n => decide (j < n)) (r.take i)
        rw [List.length_map]
        rw [List.length_take] at z
        exact small1000 (by omega)
      · rw [step, if_pos c, List.map_append]
        rfl
    · refine ⟨_, rfl, s2, hD2, ?_⟩
      rw [step, if_neg c, List.append_nil]
  · rintro ys σ H2 ⟨u, rfl, s2, hD2, rfl⟩
    refine q H2 s2 ?_
    rw [hl, List.take_length] at hD2
    exact hD2


theorem getD_snoc_left {ps : List Addr} {p : Addr} {j : Nat} (h : j < ps.length) : (ps ++ [p]).getD j 0 = ps.getD j 0 := by
  rw [List.getD_eq_getElem?_getD, List.getD_eq_getElem?_getD, List.getElem?_append_left h]
theorem getD_snoc_last {ps : List Addr} {p : Addr} : (ps ++ [p]).getD ps.length 0 = p := by
  rw [List.getD_eq_getElem?_getD, List.getElem?_append_right (Nat.le_refl _), Nat.sub_self]; rfl
theorem getD_memA {ps : List Addr} {j : Nat} (h : j < ps.length) : ps.getD j 0 ∈ ps := by
  rw [List.getD_eq_getElem?_getD, List.getElem?_eq_getElem h]
  exact List.getElem_mem h
theorem memA_get {ps : List Addr} {x : Addr} (h : x ∈ ps) : ∃ j : Nat, j < ps.length ∧ ps.getD j 0 = x := by
  obtain ⟨j, hj, e⟩ := List.getElem_of_mem h
  exact ⟨j, hj, by rw [List.getD_eq_getElem?_getD, List.getElem?_eq_getElem hj]; exact e⟩
structure Made (H H2 : Hp) (D : Addr) (ps : List Addr) (i : Nat) (f : Nat → List Int) : Prop where
  len : ps.length = i
  fresh : ∀ x ∈ ps, H x = none
  nd : ps.Nodup
  np : D ∉ ps
  each : ∀ k : Nat, k < i → H2 (ps.getD k 0) = some (.lst ((f k).map V.int))
theorem Made.zero {H H2 : Hp} {D : Addr} {f : Nat → List Int} : Made H H2 D [] 0 f := ⟨rfl, fun _ h => absurd h (by simp), List.nodup_nil, by simp, fun k hk => absurd hk (Nat.not_lt_zero k)⟩
theorem Made.snoc {H H2 H3 : Hp} {D p : Addr} {ps : List Addr} {i : Nat} {f : Nat → List Int} {o : HO} (M : Made H H2 D ps i f) (s2 : Same H H2) (s3 : Same H2 H3) (hp : H2 p = none) (hp3 : H3 p = some (.lst ((f i).map V.int))) (hD : ∃ o, H2 D = some o) : Made H (upd H3 D o) D (ps ++ [p]) (i + 1) f := by
  obtain ⟨oD, hD⟩ := hD
  have hpD : p ≠ D := (ne_of_none hD hp).symm
  have hpp : p ∉ ps := fun z => by
    obtain ⟨j, hj, e⟩ := memA_get z
    have := M.each j (by rw [← M.len]; exact hj)
    rw [e, hp] at this
    cases this
  refine ⟨by rw [List.length_append, M.len]; rfl, fun x hx => ?_, ?_, fun z => ?_, fun k hk => ?_⟩
  · rcases List.mem_append.mp hx with z | z
    · exact M.fresh x z
    · have e : x = p := by simpa using z
      rw [e]; exact s2.free hp
  · rw [List.nodup_append]
    refine ⟨M.nd, by simp, fun x hx y hy => ?_⟩
    have e : y = p := by simpa using hy
    rw [e]
    rintro rfl
    exact hpp hx
  · rcases List.mem_append.mp z with z | z
    · exact M.np z
    · exact hpD (by simpa using z : D = p).symm
  · by_cases z : k = i
    · subst z
      have e : (ps ++ [p]).getD k 0 = p := by rw [← M.len]; exact getD_snoc_last
      rw [e, upd_ne hpD]
      exact hp3
    · have hk' : k < ps.length := by rw [M.len]; omega
      rw [getD_snoc_left hk', upd_ne (fun z' => M.np (by rw [← z']; exact getD_memA hk'))]
      exact s3 _ _ (M.each k (by omega))

def gapsM (r : List Int) (m : Nat) : List Int := List.replicate (m - r.length) 0 ++ r.reverse
def beadsM (r : List Int) (m : Nat) : List Int := (List.range m).map fun (i : Nat) => (i : Int) + (gapsM r m).getD i 0
theorem gaps_len {r : List Int} {m : Nat} (h : r.length ≤ m) : (gapsM r m).length = m := by
  unfold gapsM; rw [List.length_append, List.length_replicate, List.length_reverse]; omega
theorem beads_len (r : List Int) (m : Nat) : (beadsM r m).length = m := by unfold beadsM; rw [List.length_map, List.length_range]
theorem beads_at {r : List Int} {m i : Nat} (h : i < m) : (beadsM r m).getD i 0 = (i : Int) + (gapsM r m).getD i 0 := by
  unfold beadsM
  rw [List.getD_eq_getElem?_getD, List.getElem?_map, List.getElem?_range h]
  rfl
theorem gaps_up {r : List Int} {m : Nat} (h0 : ∀ x ∈ r, 0 ≤ x) (hp : r.Pairwise (fun a b => b ≤ a)) : (gapsM r m).Pairwise (· ≤ ·) := by
  unfold gapsM
  rw [List.pairwise_append]
  refine ⟨?_, by rw [List.pairwise_reverse]; exact hp, fun a ha b hb => ?_⟩
  · rw [List.pairwise_iff_getElem]
    intro i j hi hj _
    rw [List.getElem_replicate, List.getElem_replicate]
    exact Int.le_refl _
  · rw [(List.mem_replicate.mp ha).2]
    exact h0 b (List.mem_reverse.mp hb)
theorem lines_rev (r : List Int) (j : Int) : linesAt r.reverse j = linesAt r j := by
  unfold linesAt; rw [List.filter_reverse, List.length_reverse]
theorem lines_gaps (r : List Int) (m : Nat) {j : Int} (h : 0 ≤ j) : linesAt (gapsM r m) j = linesAt r j := by
  unfold gapsM
  rw [linesAt_append, lines_rev, linesAt_none fun x hx => by rw [(List.mem_replicate.mp hx).2]; omega]
  omega
def gAt (G : List Int) (i : Nat) : Int := if i = 0 then 0 else G.getD (i - 1) 0
theorem cnt_gap {G : List Int} (hp : G.Pairwise (· ≤ ·)) {i : Nat} (hi : i < G.length) {j : Int} (h0 : 0 ≤ j) (h1 : gAt G i ≤ j) (h2 : j < G.getD i 0) : linesAt G j = G.length - i := by
  have e : G = G.take i ++ G.drop i := (List.take_append_drop _ _).symm
  rw [List.pairwise_iff_getElem] at hp
  have ge : ∀ k (hk : k < G.length), G.getD k 0 = G[k] := fun k hk => by rw [List.getD_eq_getElem?_getD, List.getElem?_eq_getElem hk]; rfl
  have e1 : linesAt (G.take i) j = 0 := linesAt_none fun x hx => by
    obtain ⟨k, hk, ex⟩ := List.getElem_of_mem hx
    have hk' : k < i := by rw [List.length_take] at hk; omega
    rw [List.getElem_take] at ex
    unfold gAt at h1
    rw [if_neg (by omega), ge _ (by omega)] at h1
    by_cases z : k = i - 1
    · subst z; omega
    · have := hp k (i - 1) (by omega) (by omega) (by omega)
      omega
  have e2 : linesAt (G.drop i) j = (G.drop i).length := linesAt_all fun x hx => by
    obtain ⟨k, hk, ex⟩ := List.getElem_of_mem hx
    rw [List.length_drop] at hk
    rw [List.getElem_drop] at ex
    rw [ge i hi] at h2
    by_cases z : k = 0
    · subst z; simp only [Nat.add_zero] at ex; omega
    · have := hp i (i + k) hi (by omega) (by omega)
      omega
  rw [List.length_drop] at e2
  have := linesAt_append (G.take i) (G.drop i) j
  rw [← e] at this
  omega
def stepP (s : Int × List Int × List (Int × Int)) (b : Int) : Int × List Int × List (Int × Int) := (b + 1, s.2.1 ++ seqI s.1 (b - s.1).toNat, s.2.2 ++ (s.2.1 ++ seqI s.1 (b - s.1).toNat).map fun f => (b, f))
def stP (ns : List Int) : Int × List Int × List (Int × Int) := ns.foldl stepP (0, [], [])
def pairsM (ns : List Int) : List (Int × Int) := (stP ns).2.2
theorem stP_take {ns : List Int} {i : Nat} (h : i < ns.length) : stP (ns.take (i + 1)) = stepP (stP (ns.take i)) (ns.getD i 0) := by
  have e : ns.take (i + 1) = ns.take i ++ [ns.getD i 0] := by
    rw [List.take_succ_eq_append_getElem h, List.getD_eq_getElem?_getD, List.getElem?_eq_getElem h]; rfl
  unfold stP
  rw [e, List.foldl_append]
  rfl
def freeM (r : List Int) (m : Nat) (j : Nat) : Int := (j : Int) + (m : Int) - (linesAt r (j : Nat) : Int)
theorem stP_beads {r : List Int} {m : Nat} (h0 : ∀ x ∈ r, 0 ≤ x) (hp : r.Pairwise (fun a b => b ≤ a)) (hm : r.length ≤ m) : ∀ i : Nat, i ≤ m →
    stP ((beadsM r m).take i) = ((i : Int) + gAt (gapsM r m) i, (List.range (gAt (gapsM r m) i).toNat).map (freeM r m),
      ((List.range i).map fun (k : Nat) => (List.range ((gapsM r m).getD k 0).toNat).map fun (j : Nat) => ((k : Int) + (gapsM r m).getD k 0, freeM r m j)).flatten)
  | 0, _ => rfl
  | i + 1, hi => by
    have hl := gaps_len hm
    have hup := gaps_up (m := m) h0 hp
    have hnn : ∀ k : Nat, 0 ≤ (gapsM r m).getD k 0 := fun k => by
      by_cases z : k < (gapsM r m).length
      · have hmem : (gapsM r m).getD k 0 ∈ gapsM r m := by rw [List.getD_eq_getElem?_getD, List.getElem?_eq_getElem z]; exact List.getElem_mem _
        unfold gapsM at hmem
        rcases List.mem_append.mp hmem with y | y
        · have := (List.mem_replicate.mp y).2
          unfold gapsM; omega
        · exact h0 _ (List.mem_reverse.mp y)
      · rw [List.getD_eq_getElem?_getD, List.getElem?_eq_none (by omega)]; exact Int.le_refl _
    have ih := stP_beads h0 hp hm i (by omega)
    rw [stP_take (by rw [beads_len]; omega), ih, beads_at (by omega)]
    have hg1 : gAt (gapsM r m) (i + 1) = (gapsM r m).getD i 0 := by unfold gAt; rw [if_neg (by omega)]; rfl
    have hg0 : 0 ≤ gAt (gapsM r m) i := by unfold gAt; split; exact Int.le_refl _; exact hnn _
    have hgg : gAt (gapsM r m) i ≤ (gapsM r m).getD i 0 := by
      unfold gAt
      split
      · exact hnn i
      · rw [List.pairwise_iff_getElem] at hup
        have := hup (i - 1) i (by omega) (by omega) (by omega)
        rw [List.getD_eq_getElem?_getD, List.getD_eq_getElem?_getD, List.getElem?_eq_getElem (by omega), List.getElem?_eq_getElem (by omega)]
        exact this
    have hfr : (List.range (gAt (gapsM r m) i).toNat).map (freeM r m) ++ seqI ((i : Int) + gAt (gapsM r m) i) ((i : Int) + (gapsM r m).getD i 0 - ((i : Int) + gAt (gapsM r m) i)).toNat = (List.range ((gapsM r m).getD i 0).toNat).map (freeM r m) := by
      obtain ⟨a, ha⟩ : ∃ a : Nat, (a : Int) = gAt (gapsM r m) i := ⟨(gAt (gapsM r m) i).toNat, by omega⟩
      obtain ⟨d, hd⟩ : ∃ d : Nat, (d : Int) = (gapsM r m).getD i 0 - gAt (gapsM r m) i := ⟨((gapsM r m).getD i 0 - gAt (gapsM r m) i).toNat, by omega⟩
      have e1 : (gAt (gapsM r m) i).toNat = a := by omega
      have e2 : ((gapsM r m).getD i 0).toNat = a + d := by omega
      have e3 : ((i : Int) + (gapsM r m).getD i 0 - ((i : Int) + gAt (gapsM r m) i)).toNat = d := by omega
      rw [e1, e2, e3, List.range_add, List.map_append, List.map_map]
      congr 1
      unfold seqI
      refine List.map_congr_left fun t ht => ?_
      have ht' : t < d := List.mem_range.mp ht
      show (i : Int) + gAt (gapsM r m) i + (t : Int) = freeM r m (a + t)
      unfold freeM
      have hc := cnt_gap hup (i := i) (by omega) (j := ((a + t : Nat) : Int)) (by omega) (by omega) (by omega)
      rw [lines_gaps r m (by omega), hl] at hc
      omega
    unfold stepP
    dsimp only
    rw [hfr, hg1, List.range_succ, List.map_append, List.flatten_append]
    refine Prod.ext ?_ (Prod.ext rfl ?_)
    · show (i : Int) + (gapsM r m).getD i 0 + 1 = ((i + 1 : Nat) : Int) + (gapsM r m).getD i 0
      omega
    · show _ ++ ((List.range ((gapsM r m).getD i 0).toNat).map (freeM r m)).map (fun f => ((i : Int) + (gapsM r m).getD i 0, f)) = _
      rw [List.map_map]
      congr 1
      rw [List.map_cons, List.map_nil, List.flatten_cons, List.flatten_nil, List.append_nil]
      rfl
theorem flat_rev {α : Type} : ∀ L : List (List α), L.reverse.flatten.Perm L.flatten
  | [] => List.Perm.refl _
  | l :: L => by
    rw [List.reverse_cons, List.flatten_append, List.flatten_cons, List.flatten_cons, List.flatten_nil, List.append_nil]
    exact (List.perm_append_comm).trans ((flat_rev L).append_left l)
theorem diffs_hooks {r : List Int} {m : Nat} (h1 : ∀ x ∈ r, 1 ≤ x) (hp : r.Pairwise (fun a b => b ≤ a)) (hm : r.length ≤ m) : ((pairsM (beadsM r m)).map fun p => p.1 - p.2).Perm (hooksM r).flatten := by
  have h0 : ∀ x ∈ r, 0 ≤ x := fun x hx => by have := h1 x hx; omega
  have e := stP_beads h0 hp hm m (Nat.le_refl m)
  have ht : (beadsM r m).take m = beadsM r m := List.take_of_length_le (by rw [beads_len]; exact Nat.le_refl m)
  rw [ht] at e
  unfold pairsM
  rw [e]
  dsimp only
  rw [List.map_flatten, List.map_map]
  obtain ⟨d, hd⟩ : ∃ d, m = d + r.length := ⟨m - r.length, by omega⟩
  have e2 : (List.range m).map ((fun l : List (Int × Int) => l.map fun p => p.1 - p.2) ∘ fun (k : Nat) => (List.range ((gapsM r m).getD k 0).toNat).map fun (j : Nat) => ((k : Int) + (gapsM r m).getD k 0, freeM r m j)) = List.replicate d [] ++ (hooksM r).reverse := by
    refine List.ext_getElem ?_ fun i a b => ?_
    · rw [List.length_map, List.length_range, List.length_append, List.length_replicate, List.length_reverse, hooksM_len]; exact hd
    · rw [List.getElem_map, List.getElem_range]
      have him : i < m := by rw [List.length_map, List.length_range] at a; exact a
      show List.map (fun p : Int × Int => p.1 - p.2) ((List.range ((gapsM r m).getD i 0).toNat).map fun (j : Nat) => ((i : Int) + (gapsM r m).getD i 0, freeM r m j)) = _
      rw [List.map_map]
      by_cases z : i < d
      · rw [List.getElem_append_left (by rw [List.length_replicate]; exact z), List.getElem_replicate]
        have : (gapsM r m).getD i 0 = 0 := by
          unfold gapsM
          rw [List.getD_eq_getElem?_getD, List.getElem?_append_left (by rw [List.length_replicate]; omega), List.getElem?_replicate, if_pos (by omega)]
          rfl
        rw [this]
        rfl
      · rw [List.getElem_append_right (by rw [List.length_replicate]; omega), List.getElem_reverse]
        have hk : (hooksM r).length - 1 - (i - (List.replicate d ([] : List Int)).length) = m - 1 - i := by rw [hooksM_len, List.length_replicate]; omega
        have hkr : m - 1 - i < r.length := by omega
        have hgi : (gapsM r m).getD i 0 = r.getD (m - 1 - i) 0 := by
          unfold gapsM
          rw [List.getD_eq_getElem?_getD, List.getElem?_append_right (by rw [List.length_replicate]; omega), List.length_replicate, List.getElem?_reverse (by omega), List.getD_eq_getElem?_getD]
          congr 2
          omega
        have e3 : (hooksM r)[(hooksM r).length - 1 - (i - (List.replicate d ([] : List Int)).length)]'(by rw [hk, hooksM_len]; exact hkr) = hookLine r (m - 1 - i) := by
          unfold hooksM
          rw [List.getElem_map, List.getElem_range]
          congr 1
        rw [e3, hgi]
        unfold hookLine
        refine List.map_congr_left fun j hj => ?_
        have hj' : (j : Int) < r.getD (m - 1 - i) 0 := by have := List.mem_range.mp hj; omega
        show (i : Int) + r.getD (m - 1 - i) 0 - freeM r m j = r.getD (m - 1 - i) 0 - (j : Int) + (linesAt (r.drop (m - 1 - i + 1)) (j : Nat) : Int)
        unfold freeM
        have := hook_two hp hkr hj'
        omega
  rw [e2, List.flatten_append]
  have e4 : (List.replicate d ([] : List Int)).flatten = [] := by
    induction d with
    | zero => rfl
    | succ d ih => rw [List.replicate_succ, List.flatten_cons]; simp
  rw [e4, List.nil_append]
  exact flat_rev _

def Rise (ns : List Int) : Prop := ∀ j : Nat, j < ns.length → (if j = 0 then (-1 : Int) else ns.getD (j - 1) 0) < ns.getD j 0
def spCheck (K : PySem.W.Frag) : Sp := fun vs H Q _ => ∃ (a : Addr) (ns : List Int), vs = [.ref a] ∧ SqL K H a (ns.map V.int) ∧ Rise ns ∧ Q .non H
def spBeads (K : PySem.W.Frag) : Sp := fun vs H Q _ => ∃ (a : Addr) (r : List Int) (m : Int), vs = [.ref a, .int m] ∧ SqL K H a (r.map V.int) ∧ (r.length : Int) ≤ m ∧ m ≤ 1000 ∧
  ∀ (p : Addr) (H' : Hp), Same H H' → H p = none → H' p = some (.lst ((beadsM r m.toNat).map V.int)) → Q (.ref p) H'
theorem rise_pos {ns : List Int} (h : Rise ns) : ∀ j : Nat, j < ns.length → 0 ≤ ns.getD j 0
  | 0, hj => by have := h 0 hj; rw [if_pos rfl] at this; omega
  | j + 1, hj => by
    have a := rise_pos h j (by omega)
    have b := h (j + 1) hj
    rw [if_neg (by omega)] at b
    have e : j + 1 - 1 = j := rfl
    rw [e] at b
    omega
theorem beads_rise {r : List Int} {m : Nat} (h0 : ∀ x ∈ r, 0 ≤ x) (hp : r.Pairwise (fun a b => b ≤ a)) (hm : r.length ≤ m) : Rise (beadsM r m) := fun j hj => by
  rw [beads_len] at hj
  have hl := gaps_len hm
  have hup := gaps_up (m := m) h0 hp
  rw [List.pairwise_iff_getElem] at hup
  have ge : ∀ k (hk : k < (gapsM r m).length), (gapsM r m).getD k 0 = (gapsM r m)[k] := fun k hk => by rw [List.getD_eq_getElem?_getD, List.getElem?_eq_getElem hk]; rfl
  rw [beads_at hj]
  by_cases z : j = 0
  · subst z
    rw [if_pos rfl]
    have hmem : (gapsM r m).getD 0 0 ∈ gapsM r m := by rw [ge 0 (by omega)]; exact List.getElem_mem _
    have : 0 ≤ (gapsM r m).getD 0 0 := by
      have hm2 := hmem
      unfold gapsM at hm2
      rcases List.mem_append.mp hm2 with y | y
      · have := (List.mem_replicate.mp y).2
        unfold gapsM; omega
      · exact h0 _ (List.mem_reverse.mp y)
    omega
  · rw [if_neg z, beads_at (by omega), ge j (by omega), ge (j - 1) (by omega)]
    have := hup (j - 1) j (by omega) (by omega) (by omega)
    omega

def gapsOf (ns : List Int) : List Int := (List.range ns.length).map fun (k : Nat) => ns.getD k 0 - (k : Int)
def rowOfM (ns : List Int) : List Int := (gapsOf ns).reverse.filter fun g => decide (0 < g)
theorem gapsOf_len (ns : List Int) : (gapsOf ns).length = ns.length := by unfold gapsOf; rw [List.length_map, List.length_range]
theorem gapsOf_at {ns : List Int} {i : Nat} (h : i < ns.length) : (gapsOf ns).getD i 0 = ns.getD i 0 - (i : Int) := by
  unfold gapsOf
  rw [List.getD_eq_getElem?_getD, List.getElem?_map, List.getElem?_range h]
  rfl
theorem gapsOf_beads {r : List Int} {m : Nat} (hm : r.length ≤ m) : gapsOf (beadsM r m) = gapsM r m := by
  refine List.ext_getElem (by rw [gapsOf_len, beads_len, gaps_len hm]) fun i a b => ?_
  have hi : i < m := by rw [gapsOf_len, beads_len] at a; exact a
  rw [getD_elem a, getD_elem b, gapsOf_at (by rw [beads_len]; exact hi), beads_at hi]
  omega
theorem rowOf_beads {r : List Int} {m : Nat} (h1 : ∀ x ∈ r, 1 ≤ x) (hm : r.length ≤ m) : rowOfM (beadsM r m) = r := by
  unfold rowOfM
  rw [gapsOf_beads hm]
  unfold gapsM
  rw [List.reverse_append, List.reverse_reverse, List.filter_append]
  have e1 : r.filter (fun g => decide (0 < g)) = r := List.filter_eq_self.mpr fun x hx => decide_eq_true (by have := h1 x hx; omega)
  have e2 : (List.replicate (m - r.length) (0 : Int)).reverse.filter (fun g => decide (0 < g)) = [] := List.filter_eq_nil_iff.mpr fun x hx => by
    have := (List.mem_replicate.mp (List.mem_reverse.mp hx)).2
    rw [this]; decide
  rw [e1, e2, List.append_nil]
def spRowOf (K : PySem.W.Frag) : Sp := fun vs H Q _ => ∃ (a : Addr) (ns : List Int), vs = [.ref a] ∧ SqL K H a (ns.map V.int) ∧ Rise ns ∧ ns.length ≤ 1000 ∧
  ∀ (p : Addr) (H' : Hp), Same H H' → H p = none → H' p = some (.lst ((rowOfM ns).map V.int)) → Q (.ref p) H'

def BadRods (r : Int) : Prop := r < 1 ∨ 8 < r
def spCheckRods (C : Addr) : Sp := fun vs H Q E => ∃ r : Int, vs = [.int r] ∧ (BadRods r → E (.ref C) none H) ∧ (1 ≤ r → r ≤ 8 → Q .non H)

theorem getA_of {ps : List Addr} {j : Nat} (h : j < ps.length) : ps[j]? = some (ps.getD j 0) := by
  rw [List.getD_eq_getElem?_getD, List.getElem?_eq_getElem h]; rfl
def shareM (r : List Int) (t : Int) : Int := ((r.length : Int) + t - 1) / t
theorem share_mul (r : List Int) {t : Int} (h : 1 ≤ t) : (r.length : Int) ≤ shareM r t * t ∧ shareM r t * t ≤ (r.length : Int) + t - 1 := by
  unfold shareM
  have a := Int.emod_add_mul_ediv ((r.length : Int) + t - 1) t
  have b := Int.emod_nonneg ((r.length : Int) + t - 1) (b := t) (by omega)
  have c := Int.emod_lt_of_pos ((r.length : Int) + t - 1) (b := t) (by omega)
  rw [Int.mul_comm] at a
  omega
def hOn (ps : List Int) (t k : Int) : List Int := (ps.filter fun p => decide (p % t = k)).map fun p => p / t
theorem hOn_succ {ps : List Int} {t k : Int} {i : Nat} (h : i < ps.length) : hOn (ps.take (i + 1)) t k = hOn (ps.take i) t k ++ (if ps.getD i 0 % t = k then [ps.getD i 0 / t] else []) := by
  unfold hOn
  rw [take_succ_filter (fun p => decide (p % t = k)) ps i (ps.getD i 0) (getD_of h), List.map_append]
  by_cases c : ps.getD i 0 % t = k
  · rw [if_pos c, if_pos (decide_eq_true c)]; rfl
  · rw [if_neg c, if_neg (by rw [decide_eq_false c]; decide)]; rfl
theorem hOn_len (ps : List Int) (t k : Int) : (hOn ps t k).length ≤ ps.length := by
  unfold hOn
  rw [List.length_map]
  exact List.length_filter_le _ _
def partedM (r : List Int) (t : Int) : List (List Int) := (List.range t.toNat).map fun (k : Nat) => hOn (beadsM r (shareM r t * t).toNat) t (0 + (k : Int))
theorem parted_len (r : List Int) (t : Int) : (partedM r t).length = t.toNat := by unfold partedM; rw [List.length_map, List.length_range]
theorem parted_at {r : List Int} {t : Int} {k : Nat} (h : k < t.toNat) : (partedM r t).getD k [] = hOn (beadsM r (shareM r t * t).toNat) t (0 + (k : Int)) := by
  unfold partedM
  rw [List.getD_eq_getElem?_getD, List.getElem?_map, List.getElem?_range h]
  rfl
def chargesM (r : List Int) (t : Int) : List Int := (partedM r t).map fun h => (h.length : Int) - shareM r t
theorem charges_len (r : List Int) (t : Int) : (chargesM r t).length = t.toNat := by unfold chargesM; rw [List.length_map, parted_len]
def maxI : List Int → Int
  | [] => 0
  | [a] => a
  | a :: b :: r => max a (maxI (b :: r))
theorem maxI_mem : ∀ {l : List Int}, l ≠ [] → maxI l ∈ l
  | [], h => absurd rfl h
  | [a], _ => List.mem_cons_self ..
  | a :: b :: r, _ => by
    have := maxI_mem (l := b :: r) (by simp)
    unfold maxI
    rcases Int.le_total a (maxI (b :: r)) with z | z
    · rw [Int.max_eq_right z]; exact List.mem_cons_of_mem _ this
    · rw [Int.max_eq_left z]; exact List.mem_cons_self ..
theorem maxI_ge : ∀ {l : List Int} (x : Int), x ∈ l → x ≤ maxI l
  | [], x, h => absurd h (by simp)
  | [a], x, h => by
    have : x = a := by simpa using h
    rw [this]; exact Int.le_refl _
  | a :: b :: r, x, h => by
    unfold maxI
    rcases List.mem_cons.mp h with z | z
    · rw [z]; exact Int.le_max_left ..
    · exact Int.le_trans (maxI_ge x z) (Int.le_max_right ..)
def lacksM (ns : List Int) (rows : List (List Int)) : List Int := (List.range rows.length).map fun (k : Nat) => ((rows.getD k []).length : Int) - ns.getD k 0
def leastM (ns : List Int) (rows : List (List Int)) : Int := maxI (lacksM ns rows)
def placesTo (ns : List Int) (rows : List (List Int)) (l : Int) (i : Nat) : List Int := ((List.range i).map fun (k : Nat) => (beadsM (rows.getD k []) (l + ns.getD k 0).toNat).map fun h => h * (rows.length : Int) + (k : Int)).flatten
def insI (x : Int) : List Int → List Int
  | [] => [x]
  | y :: r => if x ≤ y then x :: y :: r else y :: insI x r
def sortI : List Int → List Int
  | [] => []
  | x :: r => insI x (sortI r)
theorem insI_perm (x : Int) : ∀ l : List Int, (insI x l).Perm (x :: l)
  | [] => List.Perm.refl _
  | y :: r => by
    unfold insI
    split
    · exact List.Perm.refl _
    · exact ((insI_perm x r).cons y).trans (List.Perm.swap x y r)
theorem sortI_perm : ∀ l : List Int, (sortI l).Perm l
  | [] => List.Perm.refl _
  | x :: r => by
    unfold sortI
    exact (insI_perm x _).trans ((sortI_perm r).cons x)
theorem insI_up (x : Int) : ∀ {l : List Int}, l.Pairwise (· ≤ ·) → (insI x l).Pairwise (· ≤ ·)
  | [], _ => List.pairwise_singleton ..
  | y :: r, h => by
    have a := List.pairwise_cons.mp h
    unfold insI
    split
    · next c =>
      refine List.pairwise_cons.mpr ⟨fun z hz => ?_, h⟩
      rcases List.mem_cons.mp hz with e | e
      · rw [e]; exact c
      · exact Int.le_trans c (a.1 z e)
    · next c =>
      refine List.pairwise_cons.mpr ⟨fun z hz => ?_, insI_up x a.2⟩
      rcases List.mem_cons.mp ((insI_perm x r).subset hz) with e | e
      · rw [e]; omega
      · exact a.1 z e
theorem sortI_up : ∀ l : List Int, (sortI l).Pairwise (· ≤ ·)
  | [] => List.Pairwise.nil
  | x :: r => by unfold sortI; exact insI_up x (sortI_up r)
def placesM (ns : List Int) (rows : List (List Int)) : List Int := placesTo ns rows (leastM ns rows) rows.length
def laidM (ns : List Int) (rows : List (List Int)) : List Int := rowOfM (sortI (placesM ns rows))
def empties (n : Nat) : List (List Int) := List.replicate n []
def coreOfM (ns : List Int) : List Int := laidM ns (empties ns.length)
def coreM (r : List Int) (t : Int) : List Int := coreOfM (chargesM r t)
def spShare (K : PySem.W.Frag) : Sp := fun vs H Q _ => ∃ (a : Addr) (r : List Int) (t : Int), vs = [.ref a, .int t] ∧ SqL K H a (r.map V.int) ∧ 1 ≤ t ∧ t ≤ 8 ∧ Q (.int (shareM r t)) H
def spHOn (K : PySem.W.Frag) : Sp := fun vs H Q _ => ∃ (a : Addr) (ns : List Int) (t k : Int), vs = [.ref a, .int t, .int k] ∧ SqL K H a (ns.map V.int) ∧ 1 ≤ t ∧ t ≤ 8 ∧ ns.length ≤ 1000 ∧
  ∀ (p : Addr) (H' : Hp), Same H H' → H p = none → H' p = some (.lst ((hOn ns t k).map V.int)) → Q (.ref p) H'
def spParted (K : PySem.W.Frag) : Sp := fun vs H Q _ => ∃ (a : Addr) (r : List Int) (t : Int), vs = [.ref a, .int t] ∧ SqL K H a (r.map V.int) ∧ 1 ≤ t ∧ t ≤ 8 ∧ r.length ≤ 100 ∧
  ∀ (p : Addr) (ps : List Addr) (H' : Hp), Same H H' → H p = none → LL H H' p ps (partedM r t) → Q (.ref p) H'
theorem lacks_len (ns : List Int) (rows : List (List Int)) : (lacksM ns rows).length = rows.length := by unfold lacksM; rw [List.length_map, List.length_range]
theorem lacks_le {ns : List Int} {rows : List (List Int)} {k : Nat} (h : k < rows.length) : ((rows.getD k []).length : Int) ≤ leastM ns rows + ns.getD k 0 := by
  have := maxI_ge (l := lacksM ns rows) (((rows.getD k []).length : Int) - ns.getD k 0) (List.mem_map.mpr ⟨k, List.mem_range.mpr h, rfl⟩)
  unfold leastM
  omega
theorem placesTo_succ (ns : List Int) (rows : List (List Int)) (l : Int) (i : Nat) : placesTo ns rows l (i + 1) = placesTo ns rows l i ++ (beadsM (rows.getD i []) (l + ns.getD i 0).toNat).map fun h => h * (rows.length : Int) + (i : Int) := by
  unfold placesTo
  rw [List.range_succ, List.map_append, List.flatten_append]
  simp only [List.map_cons, List.map_nil, List.flatten_cons, List.flatten_nil, List.append_nil]
abbrev Up (l : List Int) : Prop := l.Pairwise (· < ·)
theorem up_nodup {l : List Int} (h : Up l) : l.Nodup := List.nodup_iff_pairwise_ne.mpr (h.imp fun h => Int.ne_of_lt h)
theorem up_le {l : List Int} (h : Up l) : l.Pairwise (· ≤ ·) := h.imp fun h => Int.le_of_lt h
theorem up_eq {a b : List Int} (ha : Up a) (hb : Up b) (h : ∀ x, x ∈ a ↔ x ∈ b) : a = b :=
  sort_one ((List.perm_ext_iff_of_nodup (up_nodup ha) (up_nodup hb)).mpr h) (up_le ha) (up_le hb)
theorem sort_strict {l : List Int} (h : l.Nodup) : Up (sortI l) := by
  have h1 := sortI_up l
  have h2 := List.nodup_iff_pairwise_ne.mp (((sortI_perm l).nodup_iff).mpr h)
  exact (h1.and h2).imp fun ⟨a, b⟩ => by omega
theorem up_rise {l : List Int} (h : Up l) (h0 : ∀ x ∈ l, 0 ≤ x) : Rise l := fun j hj => by
  by_cases z : j = 0
  · subst z
    rw [if_pos rfl]
    have := h0 (l.getD 0 0) (by rw [← getD_elem hj]; exact List.getElem_mem _)
    omega
  · rw [if_neg z]
    have := List.pairwise_iff_getElem.mp h (j - 1) j (by omega) hj (by omega)
    rw [getD_elem, getD_elem] at this
    exact this
theorem rise_lt {l : List Int} (h : Rise l) {i : Nat} : ∀ d : Nat, i + d + 1 < l.length → l.getD i 0 < l.getD (i + d + 1) 0
  | 0, hd => by
    have := h (i + 1) hd
    rw [if_neg (by omega)] at this
    exact this
  | d + 1, hd => by
    have a := rise_lt h (i := i) d (by omega)
    have b := h (i + (d + 1) + 1) hd
    rw [if_neg (by omega)] at b
    have e : i + (d + 1) + 1 - 1 = i + d + 1 := by omega
    rw [e] at b
    omega
theorem rise_up {l : List Int} (h : Rise l) : Up l := List.pairwise_iff_getElem.mpr fun i j hi hj hij => by
  rw [getD_elem, getD_elem]
  have := rise_lt h (i := i) (j - i - 1) (by omega)
  have e : i + (j - i - 1) + 1 = j := by omega
  rw [e] at this
  exact this
def rngI (d : Nat) : List Int := (List.range d).map fun (k : Nat) => (k : Int)
theorem rng_len (d : Nat) : (rngI d).length = d := by unfold rngI; rw [List.length_map, List.length_range]
theorem mem_rng {d : Nat} {x : Int} : x ∈ rngI d ↔ 0 ≤ x ∧ x < (d : Int) := by
  unfold rngI
  rw [List.mem_map]
  constructor
  · rintro ⟨k, hk, rfl⟩
    have := List.mem_range.mp hk
    omega
  · rintro ⟨a, b⟩
    exact ⟨x.toNat, List.mem_range.mpr (by omega), by omega⟩
theorem rng_up (d : Nat) : Up (rngI d) := by
  unfold rngI
  rw [Up, List.pairwise_map]
  exact List.pairwise_lt_range.imp fun h => by omega
theorem rng_at {d i : Nat} (h : i < d) : (rngI d).getD i 0 = (i : Int) := by
  unfold rngI
  rw [List.getD_eq_getElem?_getD, List.getElem?_map, List.getElem?_range h]
  rfl
def shiftI (d : Nat) (l : List Int) : List Int := rngI d ++ l.map fun x => x + (d : Int)
theorem shift_len (d : Nat) (l : List Int) : (shiftI d l).length = d + l.length := by unfold shiftI; rw [List.length_append, List.length_map, rng_len]
theorem shift_up {d : Nat} {l : List Int} (h : Up l) (h0 : ∀ x ∈ l, 0 ≤ x) : Up (shiftI d l) := by
  unfold shiftI
  refine List.pairwise_append.mpr ⟨rng_up d, List.pairwise_map.mpr (h.imp fun h => by omega), fun a ha b hb => ?_⟩
  obtain ⟨y, hy, rfl⟩ := List.mem_map.mp hb
  have := mem_rng.mp ha
  have := h0 y hy
  omega
theorem mem_shift {d : Nat} {l : List Int} {x : Int} : x ∈ shiftI d l ↔ (0 ≤ x ∧ x < (d : Int)) ∨ x - (d : Int) ∈ l := by
  unfold shiftI
  rw [List.mem_append, mem_rng, List.mem_map]
  constructor
  · rintro (h | ⟨y, hy, rfl⟩)
    · exact .inl h
    · refine .inr ?_
      have e : y + (d : Int) - d = y := by omega
      rw [e]; exact hy
  · rintro (h | h)
    · exact .inl h
    · exact .inr ⟨_, h, by omega⟩
theorem shift_lo {d i : Nat} {l : List Int} (h : i < d) : (shiftI d l).getD i 0 = (i : Int) := by
  unfold shiftI
  rw [List.getD_eq_getElem?_getD, List.getElem?_append_left (by rw [rng_len]; exact h), ← List.getD_eq_getElem?_getD, rng_at h]
theorem shift_hi {d i : Nat} {l : List Int} (h : d ≤ i) (h2 : i < d + l.length) : (shiftI d l).getD i 0 = l.getD (i - d) 0 + (d : Int) := by
  unfold shiftI
  rw [List.getD_eq_getElem?_getD, List.getElem?_append_right (by rw [rng_len]; exact h), rng_len, List.getElem?_map, getD_of (show i - d < l.length by omega)]
  rfl
theorem rep_at {n i : Nat} : (List.replicate n (0 : Int)).getD i 0 = 0 := by
  rw [List.getD_eq_getElem?_getD, List.getElem?_replicate]
  split <;> rfl
theorem getD_appL {a b : List Int} {i : Nat} (h : i < a.length) : (a ++ b).getD i 0 = a.getD i 0 := by
  rw [List.getD_eq_getElem?_getD, List.getElem?_append_left h, ← List.getD_eq_getElem?_getD]
theorem getD_appR {a b : List Int} {i : Nat} (h : a.length ≤ i) : (a ++ b).getD i 0 = b.getD (i - a.length) 0 := by
  rw [List.getD_eq_getElem?_getD, List.getElem?_append_right h, ← List.getD_eq_getElem?_getD]
theorem gaps_shift (d : Nat) (l : List Int) : gapsOf (shiftI d l) = List.replicate d 0 ++ gapsOf l := by
  refine List.ext_getElem (by rw [gapsOf_len, shift_len, List.length_append, List.length_replicate, gapsOf_len]) fun i a b => ?_
  have hi : i < d + l.length := by rw [gapsOf_len, shift_len] at a; exact a
  rw [getD_elem a, getD_elem b, gapsOf_at (by rw [shift_len]; exact hi)]
  by_cases z : i < d
  · rw [shift_lo z, getD_appL (by rw [List.length_replicate]; exact z), rep_at]
    omega
  · rw [shift_hi (by omega) hi, getD_appR (by rw [List.length_replicate]; omega), List.length_replicate, gapsOf_at (by omega)]
    omega
theorem rowOf_shift (d : Nat) (l : List Int) : rowOfM (shiftI d l) = rowOfM l := by
  unfold rowOfM
  rw [gaps_shift, List.reverse_append, List.filter_append]
  have e2 : (List.replicate d (0 : Int)).reverse.filter (fun g => decide (0 < g)) = [] := List.filter_eq_nil_iff.mpr fun x hx => by
    have := (List.mem_replicate.mp (List.mem_reverse.mp hx)).2
    rw [this]; decide
  rw [e2, List.append_nil]
def rodP (t s n : Int) (k : Nat) : List Int := (List.range (s + n).toNat).map fun (h : Nat) => (h : Int) * t + (k : Int)
def PL (ns : List Int) (t s : Int) (i : Nat) : List Int := ((List.range i).map fun (k : Nat) => rodP t s (ns.getD k 0) k).flatten
theorem PL_succ (ns : List Int) (t s : Int) (i : Nat) : PL ns t s (i + 1) = PL ns t s i ++ rodP t s (ns.getD i 0) i := by
  unfold PL
  rw [List.range_succ, List.map_append, List.flatten_append]
  simp only [List.map_cons, List.map_nil, List.flatten_cons, List.flatten_nil, List.append_nil]
theorem rod_len (t s n : Int) (k : Nat) : (rodP t s n k).length = (s + n).toNat := by unfold rodP; rw [List.length_map, List.length_range]
theorem mem_rod {t s n x : Int} {k : Nat} : x ∈ rodP t s n k ↔ ∃ h : Nat, (h : Int) < s + n ∧ x = (h : Int) * t + (k : Int) := by
  unfold rodP
  rw [List.mem_map]
  constructor
  · rintro ⟨h, hh, rfl⟩
    have := List.mem_range.mp hh
    exact ⟨h, by omega, rfl⟩
  · rintro ⟨h, hh, rfl⟩
    exact ⟨h, List.mem_range.mpr (by omega), rfl⟩
theorem rod_up {t s n : Int} {k : Nat} (ht : 1 ≤ t) : Up (rodP t s n k) := by
  unfold rodP
  rw [Up, List.pairwise_map]
  refine List.pairwise_lt_range.imp fun {a b} h => ?_
  have := Int.mul_lt_mul_of_pos_right (show (a : Int) < (b : Int) by omega) (show 0 < t by omega)
  omega
theorem mem_PL {ns : List Int} {t s x : Int} : ∀ {i : Nat}, x ∈ PL ns t s i ↔ ∃ k h : Nat, k < i ∧ (h : Int) < s + ns.getD k 0 ∧ x = (h : Int) * t + (k : Int)
  | 0 => ⟨fun h => (by cases h), fun ⟨k, _, h, _⟩ => absurd h (Nat.not_lt_zero k)⟩
  | i + 1 => by
    rw [PL_succ, List.mem_append, mem_PL (i := i), mem_rod]
    constructor
    · rintro (⟨k, h, a, b, c⟩ | ⟨h, b, c⟩)
      · exact ⟨k, h, by omega, b, c⟩
      · exact ⟨i, h, by omega, b, c⟩
    · rintro ⟨k, h, a, b, c⟩
      by_cases z : k = i
      · subst z; exact .inr ⟨h, b, c⟩
      · exact .inl ⟨k, h, by omega, b, c⟩
theorem hk_mod {t h k : Int} (h0 : 0 ≤ k) (h1 : k < t) : (h * t + k) % t = k ∧ (h * t + k) / t = h := by
  have ht : 0 < t := by omega
  constructor
  · rw [Int.add_comm, Int.add_mul_emod_self_right]
    exact Int.emod_eq_of_lt h0 h1
  · rw [Int.add_comm, Int.add_mul_ediv_right _ _ (by omega), Int.ediv_eq_zero_of_lt h0 h1, Int.zero_add]
theorem PL_nodup {ns : List Int} {t s : Int} : ∀ {i : Nat}, (i : Int) ≤ t → (PL ns t s i).Nodup
  | 0, _ => List.nodup_nil
  | i + 1, h => by
    rw [PL_succ, List.nodup_append]
    refine ⟨PL_nodup (by omega), up_nodup (rod_up (by omega)), fun a ha b hb e => ?_⟩
    obtain ⟨k, x, hk, _, rfl⟩ := mem_PL.mp ha
    obtain ⟨y, _, rfl⟩ := mem_rod.mp hb
    have a1 := (hk_mod (t := t) (h := x) (k := (k : Int)) (by omega) (by omega)).1
    have a2 := (hk_mod (t := t) (h := y) (k := (i : Int)) (by omega) (by omega)).1
    rw [e, a2] at a1
    omega
theorem PL_len {ns : List Int} {t s : Int} : ∀ {i : Nat}, i ≤ ns.length → (∀ k : Nat, k < i → 0 ≤ s + ns.getD k 0) → ((PL ns t s i).length : Int) = s * (i : Int) + (ns.take i).sum
  | 0, _, _ => by show ((0 : Nat) : Int) = s * 0 + 0; omega
  | i + 1, hi, h => by
    have a := PL_len (t := t) (i := i) (by omega) fun k hk => h k (by omega)
    have b := h i (by omega)
    rw [PL_succ, List.length_append, rod_len, List.take_succ_eq_append_getElem (by omega), List.sum_append, getD_elem]
    have e : [ns.getD i 0].sum = ns.getD i 0 := by simp
    have e2 : s * ((i + 1 : Nat) : Int) = s * (i : Int) + s := by grind
    rw [e, e2]
    omega
theorem PL_up {ns : List Int} {t s : Int} {i : Nat} (h : (i : Int) ≤ t) : Up (sortI (PL ns t s i)) := sort_strict (PL_nodup h)
theorem mem_sort {l : List Int} {x : Int} : x ∈ sortI l ↔ x ∈ l := (sortI_perm l).mem_iff
theorem PL_pos {ns : List Int} {t s : Int} {i : Nat} (h : 0 ≤ t) : ∀ x ∈ sortI (PL ns t s i), 0 ≤ x := fun x hx => by
  obtain ⟨k, y, _, _, rfl⟩ := mem_PL.mp (mem_sort.mp hx)
  have := Int.mul_nonneg (show (0 : Int) ≤ (y : Int) by omega) h
  omega
theorem PL_shift {ns : List Int} {t s1 s2 : Int} (ht : t = (ns.length : Int)) (h1 : 1 ≤ t) (hs : s1 ≤ s2) (hn : ∀ k : Nat, k < ns.length → 0 ≤ s1 + ns.getD k 0) :
    sortI (PL ns t s2 ns.length) = shiftI ((s2 - s1) * t).toNat (sortI (PL ns t s1 ns.length)) := by
  refine up_eq (PL_up (by omega)) (shift_up (PL_up (by omega)) (PL_pos (by omega))) fun x => ?_
  have hd := Int.mul_nonneg (show 0 ≤ s2 - s1 by omega) (show 0 ≤ t by omega)
  rw [mem_shift, mem_sort, mem_sort, mem_PL, mem_PL]
  have ed : (((s2 - s1) * t).toNat : Int) = (s2 - s1) * t := by omega
  rw [ed]
  constructor
  · rintro ⟨k, h, hk, hh, rfl⟩
    by_cases z : (h : Int) < s2 - s1
    · refine .inl ⟨?_, ?_⟩
      · have := Int.mul_nonneg (show (0 : Int) ≤ (h : Int) by omega) (show 0 ≤ t by omega)
        omega
      · have a := Int.mul_le_mul_of_nonneg_right (show (h : Int) + 1 ≤ s2 - s1 by omega) (show 0 ≤ t by omega)
        have b : ((h : Int) + 1) * t = (h : Int) * t + t := by grind
        omega
    · refine .inr ⟨k, ((h : Int) - (s2 - s1)).toNat, hk, by omega, ?_⟩
      have e : ((((h : Int) - (s2 - s1)).toNat : Nat) : Int) = (h : Int) - (s2 - s1) := by omega
      rw [e]
      grind
  · rintro (⟨a, b⟩ | ⟨k, h, hk, hh, e⟩)
    · have c := Int.emod_nonneg x (b := t) (by omega)
      have d := Int.emod_lt_of_pos x (b := t) (by omega)
      have f := Int.emod_add_mul_ediv x t
      have g : 0 ≤ x / t := Int.ediv_nonneg a (by omega)
      have g2 : x / t < s2 - s1 := by
        refine Int.lt_of_mul_lt_mul_right (a := t) ?_ (by omega)
        have := Int.mul_comm t (x / t)
        omega
      have hn' := hn (x % t).toNat (by omega)
      refine ⟨(x % t).toNat, (x / t).toNat, by omega, by omega, ?_⟩
      have e1 : (((x / t).toNat : Nat) : Int) = x / t := by omega
      have e2 : (((x % t).toNat : Nat) : Int) = x % t := by omega
      rw [e1, e2, Int.mul_comm]
      omega
    · refine ⟨k, ((h : Int) + (s2 - s1)).toNat, hk, by omega, ?_⟩
      have e1 : ((((h : Int) + (s2 - s1)).toNat : Nat) : Int) = (h : Int) + (s2 - s1) := by omega
      rw [e1]
      grind
theorem PL_rod {ns : List Int} {t s : Int} (ht : t = (ns.length : Int)) {k : Nat} (hk : k < ns.length) : (sortI (PL ns t s ns.length)).filter (fun x => decide (x % t = 0 + (k : Int))) = rodP t s (ns.getD k 0) k := by
  refine up_eq ((PL_up (by omega)).filter _) (rod_up (by omega)) fun x => ?_
  rw [List.mem_filter, mem_sort, mem_PL, mem_rod]
  constructor
  · rintro ⟨⟨j, h, hj, hh, rfl⟩, e⟩
    have a := (hk_mod (t := t) (h := h) (k := (j : Int)) (by omega) (by omega)).1
    have b := of_decide_eq_true e
    rw [a] at b
    obtain rfl : j = k := by omega
    exact ⟨h, hh, rfl⟩
  · rintro ⟨h, hh, rfl⟩
    exact ⟨⟨k, h, hk, hh, rfl⟩, decide_eq_true (by rw [(hk_mod (t := t) (h := h) (k := (k : Int)) (by omega) (by omega)).1]; omega)⟩
theorem rng_rod {t e : Int} (ht : 1 ≤ t) (he : 0 ≤ e) {k : Nat} (hk : (k : Int) < t) : (rngI (e * t).toNat).filter (fun x => decide (x % t = 0 + (k : Int))) = rodP t e 0 k := by
  refine up_eq ((rng_up _).filter _) (rod_up ht) fun x => ?_
  have hd := Int.mul_nonneg he (show 0 ≤ t by omega)
  rw [List.mem_filter, mem_rng, mem_rod]
  constructor
  · rintro ⟨⟨a, b⟩, c⟩
    have c := of_decide_eq_true c
    have f := Int.emod_add_mul_ediv x t
    have g : 0 ≤ x / t := Int.ediv_nonneg a (by omega)
    have g2 : x / t < e := by
      refine Int.lt_of_mul_lt_mul_right (a := t) ?_ (by omega)
      have := Int.mul_comm t (x / t)
      omega
    refine ⟨(x / t).toNat, by omega, ?_⟩
    have e1 : (((x / t).toNat : Nat) : Int) = x / t := by omega
    rw [e1, Int.mul_comm]
    omega
  · rintro ⟨h, hh, rfl⟩
    have a := Int.mul_le_mul_of_nonneg_right (show (h : Int) + 1 ≤ e by omega) (show 0 ≤ t by omega)
    have b : ((h : Int) + 1) * t = (h : Int) * t + t := by grind
    have c := Int.mul_nonneg (show (0 : Int) ≤ (h : Int) by omega) (show 0 ≤ t by omega)
    exact ⟨⟨by omega, by omega⟩, decide_eq_true (by rw [(hk_mod (t := t) (h := h) (k := (k : Int)) (by omega) (by omega)).1]; omega)⟩
theorem pad_pos : ∀ {g : List Int}, (∀ x ∈ g, 0 ≤ x) → g.Pairwise (· ≤ ·) → List.replicate (g.length - (g.filter fun x => decide (0 < x)).length) 0 ++ g.filter (fun x => decide (0 < x)) = g
  | [], _, _ => rfl
  | x :: g, h0, hp => by
    have a := List.pairwise_cons.mp hp
    by_cases z : 0 < x
    · have e : (x :: g).filter (fun x => decide (0 < x)) = x :: g := List.filter_eq_self.mpr fun y hy => decide_eq_true (by
        rcases List.mem_cons.mp hy with e | e
        · omega
        · have := a.1 y e; omega)
      rw [e, Nat.sub_self]
      rfl
    · have hx : x = 0 := by have := h0 x (List.mem_cons_self ..); omega
      have ih := pad_pos (g := g) (fun y hy => h0 y (List.mem_cons_of_mem _ hy)) a.2
      have e : (x :: g).filter (fun x => decide (0 < x)) = g.filter (fun x => decide (0 < x)) := by
        rw [List.filter_cons, if_neg (by rw [decide_eq_false z]; decide)]
      have hl := List.length_filter_le (fun x : Int => decide (0 < x)) g
      rw [e, List.length_cons, show g.length + 1 - (g.filter fun x => decide (0 < x)).length = (g.length - (g.filter fun x => decide (0 < x)).length) + 1 by omega, List.replicate_succ, List.cons_append, ih, hx]
theorem gapsOf_up {l : List Int} (h : Rise l) : (∀ x ∈ gapsOf l, 0 ≤ x) ∧ (gapsOf l).Pairwise (· ≤ ·) := by
  have key : ∀ j : Nat, j < l.length → 0 ≤ l.getD j 0 - (j : Int) := fun j => by
    induction j with
    | zero => intro hj; have := h 0 hj; rw [if_pos rfl] at this; omega
    | succ j ih =>
      intro hj
      have a := ih (by omega)
      have b := h (j + 1) hj
      rw [if_neg (by omega)] at b
      have e : j + 1 - 1 = j := rfl
      rw [e] at b
      omega
  have step : ∀ i d : Nat, i + d < l.length → l.getD i 0 - (i : Int) ≤ l.getD (i + d) 0 - ((i + d : Nat) : Int) := fun i d => by
    induction d with
    | zero => intro _; exact Int.le_refl _
    | succ d ih =>
      intro hd
      have a := ih (by omega)
      have b := h (i + (d + 1)) hd
      rw [if_neg (by omega)] at b
      have e : i + (d + 1) - 1 = i + d := by omega
      rw [e] at b
      omega
  refine ⟨fun x hx => ?_, List.pairwise_iff_getElem.mpr fun i j hi hj hij => ?_⟩
  · obtain ⟨i, hi, e⟩ := List.getElem_of_mem hx
    have hi' := hi
    rw [gapsOf_len] at hi'
    rw [← e, getD_elem hi, gapsOf_at hi']
    exact key i hi'
  · have hi' := hi
    have hj' := hj
    rw [gapsOf_len] at hi' hj'
    rw [getD_elem hi, getD_elem hj, gapsOf_at hi', gapsOf_at hj']
    have := step i (j - i) (by omega)
    have e : i + (j - i) = j := by omega
    rw [e] at this
    exact this
theorem beads_rowOf {l : List Int} (h : Rise l) : beadsM (rowOfM l) l.length = l := by
  obtain ⟨h0, hp⟩ := gapsOf_up h
  have e : gapsM (rowOfM l) l.length = gapsOf l := by
    unfold gapsM rowOfM
    rw [List.filter_reverse, List.reverse_reverse, List.length_reverse]
    have := pad_pos h0 hp
    rw [gapsOf_len] at this
    exact this
  refine List.ext_getElem (by rw [beads_len]) fun i a b => ?_
  rw [getD_elem a, getD_elem b, beads_at b, e, gapsOf_at b]
  omega
theorem rowOf_len (l : List Int) : (rowOfM l).length ≤ l.length := by
  unfold rowOfM
  have := List.length_filter_le (fun g : Int => decide (0 < g)) (gapsOf l).reverse
  rw [List.length_reverse, gapsOf_len] at this
  exact this
theorem gapsM_more {r : List Int} {m n : Nat} (h1 : r.length ≤ m) (h2 : m ≤ n) : gapsM r n = List.replicate (n - m) 0 ++ gapsM r m := by
  unfold gapsM
  rw [← List.append_assoc, List.replicate_append_replicate]
  congr 2
  omega
theorem beads_shift {r : List Int} {m n : Nat} (h1 : r.length ≤ m) (h2 : m ≤ n) : beadsM r n = shiftI (n - m) (beadsM r m) := by
  refine List.ext_getElem (by rw [beads_len, shift_len, beads_len]; omega) fun i a b => ?_
  have hi : i < n := by rw [beads_len] at a; exact a
  rw [getD_elem a, getD_elem b, beads_at hi, gapsM_more h1 h2]
  by_cases z : i < n - m
  · rw [shift_lo z, getD_appL (by rw [List.length_replicate]; exact z), rep_at]
    omega
  · rw [shift_hi (by omega) (by rw [beads_len]; omega), getD_appR (by rw [List.length_replicate]; omega), List.length_replicate, beads_at (by omega)]
    omega

theorem beads_nil (m : Nat) : beadsM [] m = rngI m := by
  unfold beadsM rngI
  refine List.map_congr_left fun i _ => ?_
  have e : (gapsM [] m).getD i 0 = 0 := by
    show (List.replicate (m - 0) (0 : Int) ++ []).getD i 0 = 0
    rw [List.append_nil, rep_at]
  rw [e]
  omega
theorem empties_at {n k : Nat} : (empties n).getD k [] = [] := by
  unfold empties
  rw [List.getD_eq_getElem?_getD, List.getElem?_replicate]
  split <;> rfl
theorem empties_len (n : Nat) : (empties n).length = n := by unfold empties; rw [List.length_replicate]
theorem places_PL (ns : List Int) (n : Nat) (s : Int) : ∀ i : Nat, placesTo ns (empties n) s i = PL ns (n : Int) s i
  | 0 => rfl
  | i + 1 => by
    rw [placesTo_succ, PL_succ, places_PL ns n s i, empties_at, empties_len, beads_nil]
    unfold rodP rngI
    rw [List.map_map]
    rfl
theorem lacks_ge {ns : List Int} {n k : Nat} (hk : k < n) : 0 ≤ leastM ns (empties n) + ns.getD k 0 := by
  have := lacks_le (ns := ns) (rows := empties n) (k := k) (by rw [empties_len]; exact hk)
  rw [empties_at] at this
  exact this
theorem perm_sum {a b : List Int} (h : a.Perm b) : a.sum = b.sum := by
  induction h with
  | nil => rfl
  | cons x _ ih => rw [List.sum_cons, List.sum_cons, ih]
  | swap x y l => simp only [List.sum_cons]; omega
  | trans _ _ ih1 ih2 => rw [ih1, ih2]
theorem gaps_snoc (l : List Int) (x : Int) : gapsOf (l ++ [x]) = gapsOf l ++ [x - (l.length : Int)] := by
  refine List.ext_getElem (by rw [gapsOf_len, List.length_append, List.length_append, gapsOf_len]; rfl) fun i a b => ?_
  have hi : i < l.length + 1 := by rw [gapsOf_len, List.length_append] at a; exact a
  rw [getD_elem a, getD_elem b, gapsOf_at (by rw [List.length_append]; exact hi)]
  by_cases z : i < l.length
  · rw [getD_appL z, getD_appL (by rw [gapsOf_len]; exact z), gapsOf_at z]
  · obtain rfl : i = l.length := by omega
    rw [getD_appR (Nat.le_refl _), getD_appR (by rw [gapsOf_len]; exact Nat.le_refl _), gapsOf_len, Nat.sub_self]
    rfl
theorem gaps_sum_rev : ∀ l : List Int, 2 * (gapsOf l.reverse).sum = 2 * l.reverse.sum - (l.length : Int) * ((l.length : Int) - 1)
  | [] => rfl
  | x :: l => by
    have ih := gaps_sum_rev l
    rw [List.reverse_cons, gaps_snoc, List.sum_append, List.sum_append, List.length_reverse, List.length_cons]
    have e1 : [x - (l.length : Int)].sum = x - (l.length : Int) := by simp
    have e2 : [x].sum = x := by simp
    rw [e1, e2]
    have e3 : ((l.length + 1 : Nat) : Int) * (((l.length + 1 : Nat) : Int) - 1) = (l.length : Int) * ((l.length : Int) - 1) + 2 * (l.length : Int) := by grind
    rw [e3]
    omega
theorem gaps_sum (l : List Int) : 2 * (gapsOf l).sum = 2 * l.sum - (l.length : Int) * ((l.length : Int) - 1) := by
  have := gaps_sum_rev l.reverse
  rw [List.reverse_reverse, List.length_reverse] at this
  exact this
theorem filter_sum : ∀ {g : List Int}, (∀ x ∈ g, 0 ≤ x) → (g.filter fun x => decide (0 < x)).sum = g.sum
  | [], _ => rfl
  | x :: g, h => by
    have ih := filter_sum (g := g) fun y hy => h y (List.mem_cons_of_mem _ hy)
    have hx := h x (List.mem_cons_self ..)
    rw [List.filter_cons]
    by_cases z : 0 < x
    · rw [if_pos (decide_eq_true z), List.sum_cons, List.sum_cons, ih]
    · rw [if_neg (by rw [decide_eq_false z]; decide), ih, List.sum_cons]
      omega
theorem rowOf_sum {l : List Int} (h : Rise l) : 2 * (rowOfM l).sum = 2 * l.sum - (l.length : Int) * ((l.length : Int) - 1) := by
  rw [← gaps_sum]
  unfold rowOfM
  have h0 := (gapsOf_up h).1
  rw [filter_sum fun x hx => h0 x (List.mem_reverse.mp hx), perm_sum (List.reverse_perm _)]
theorem rod_sum (t s n : Int) (k : Nat) : 2 * (rodP t s n k).sum = t * ((s + n).toNat : Int) * (((s + n).toNat : Int) - 1) + 2 * (k : Int) * ((s + n).toNat : Int) := by
  unfold rodP
  generalize (s + n).toNat = m
  induction m with
  | zero => show (2 : Int) * 0 = t * 0 * _ + 2 * (k : Int) * 0; grind
  | succ m ih =>
    rw [List.range_succ, List.map_append, List.sum_append]
    have e : (List.map (fun (h : Nat) => (h : Int) * t + (k : Int)) [m]).sum = (m : Int) * t + (k : Int) := by simp
    rw [e]
    have e2 : ((m + 1 : Nat) : Int) = (m : Int) + 1 := by omega
    rw [e2]
    grind
theorem sumR_indic (t : Nat) (j : Nat) (h : j < t) : ∀ i : Nat, i ≤ t → ((List.range i).map fun (k : Nat) => if j = k then (1 : Int) else 0).sum = if j < i then 1 else 0
  | 0, _ => by rw [if_neg (Nat.not_lt_zero j)]; rfl
  | i + 1, hi => by
    have ih := sumR_indic t j h i (by omega)
    rw [List.range_succ, List.map_append, List.sum_append, ih]
    have e : (List.map (fun (k : Nat) => if j = k then (1 : Int) else 0) [i]).sum = if j = i then (1 : Int) else 0 := by simp
    rw [e]
    by_cases z : j = i
    · rw [if_pos z, if_neg (by omega), if_pos (by omega)]; rfl
    · rw [if_neg z]
      by_cases y : j < i
      · rw [if_pos y, if_pos (by omega)]; rfl
      · rw [if_neg y, if_neg (by omega)]; rfl
theorem sum_map_add {α : Type} (l : List α) (f g : α → Int) : (l.map fun x => f x + g x).sum = (l.map f).sum + (l.map g).sum := by
  induction l with
  | nil => rfl
  | cons a l ih => simp only [List.map_cons, List.sum_cons]; omega
theorem sum_map_sub {α : Type} (l : List α) (f g : α → Int) : (l.map fun x => f x - g x).sum = (l.map f).sum - (l.map g).sum := by
  induction l with
  | nil => rfl
  | cons a l ih => simp only [List.map_cons, List.sum_cons]; omega
theorem sum_map_const {α : Type} (l : List α) (c : Int) : (l.map fun _ => c).sum = (l.length : Int) * c := by
  induction l with
  | nil => show (0 : Int) = ((0 : Nat) : Int) * c; grind
  | cons a l ih => simp only [List.map_cons, List.sum_cons, List.length_cons]; rw [ih]; grind
theorem rods_all {t : Int} (ht : 1 ≤ t) : ∀ l : List Int, ((List.range t.toNat).map fun (k : Nat) => ((l.filter fun x => decide (x % t = 0 + (k : Int))).length : Int)).sum = (l.length : Int)
  | [] => by
    show ((List.range t.toNat).map fun (k : Nat) => (0 : Int)).sum = 0
    rw [sum_map_const]; omega
  | x :: l => by
    have ih := rods_all ht l
    have a := Int.emod_nonneg x (b := t) (by omega)
    have b := Int.emod_lt_of_pos x (b := t) (by omega)
    have e : ((List.range t.toNat).map fun (k : Nat) => (((x :: l).filter fun x => decide (x % t = 0 + (k : Int))).length : Int)) = (List.range t.toNat).map fun (k : Nat) => (if (x % t).toNat = k then (1 : Int) else 0) + ((l.filter fun x => decide (x % t = 0 + (k : Int))).length : Int) := by
      refine List.map_congr_left fun k _ => ?_
      rw [List.filter_cons]
      by_cases z : x % t = 0 + (k : Int)
      · rw [if_pos (decide_eq_true z), if_pos (by omega), List.length_cons]; omega
      · rw [if_neg (by rw [decide_eq_false z]; decide), if_neg (by omega)]; omega
    rw [e, sum_map_add, ih, sumR_indic t.toNat _ (by omega) t.toNat (Nat.le_refl _), if_pos (by omega), List.length_cons]
    omega
theorem hOn_length (l : List Int) (t k : Int) : (hOn l t k).length = (l.filter fun x => decide (x % t = k)).length := by unfold hOn; rw [List.length_map]
theorem charges_at {r : List Int} {t : Int} {k : Nat} (h : k < t.toNat) : (chargesM r t).getD k 0 = ((hOn (beadsM r (shareM r t * t).toNat) t (0 + (k : Int))).length : Int) - shareM r t := by
  rw [← getD_elem (by rw [charges_len]; exact h)]
  simp only [chargesM, partedM, List.getElem_map, List.getElem_range]
theorem charges_sum {r : List Int} {t : Int} (ht : 1 ≤ t) : (chargesM r t).sum = 0 := by
  have e : chargesM r t = (List.range t.toNat).map fun (k : Nat) => ((((beadsM r (shareM r t * t).toNat).filter fun x => decide (x % t = 0 + (k : Int))).length : Nat) : Int) - shareM r t := by
    unfold chargesM partedM
    rw [List.map_map]
    refine List.map_congr_left fun k _ => ?_
    show (((hOn (beadsM r (shareM r t * t).toNat) t (0 + (k : Int))).length : Nat) : Int) - shareM r t = _
    rw [hOn_length]
  have hm := share_mul r ht
  rw [e, sum_map_sub, rods_all ht, sum_map_const, beads_len, List.length_range]
  have e2 : ((t.toNat : Nat) : Int) = t := by omega
  rw [e2, Int.mul_comm t]
  omega
theorem charges_lo {r : List Int} {t : Int} {k : Nat} (h : k < t.toNat) : 0 ≤ shareM r t + (chargesM r t).getD k 0 := by
  rw [charges_at h]; omega
theorem core_any {ns : List Int} {s : Int} (h1 : 1 ≤ ns.length) (hn : ∀ k : Nat, k < ns.length → 0 ≤ s + ns.getD k 0) : coreOfM ns = rowOfM (sortI (PL ns (ns.length : Int) s ns.length)) := by
  have hL : leastM ns (empties ns.length) ≤ s := by
    have hm := maxI_mem (l := lacksM ns (empties ns.length)) (by intro z; have := lacks_len ns (empties ns.length); rw [z, empties_len] at this; simp at this; omega)
    obtain ⟨k, hk, e⟩ := List.mem_map.mp hm
    have hk' := List.mem_range.mp hk
    rw [empties_len] at hk'
    have := hn k hk'
    rw [empties_at] at e
    have e' : ((([] : List Int).length : Nat) : Int) = 0 := rfl
    rw [e'] at e
    unfold leastM
    omega
  unfold coreOfM laidM placesM
  rw [empties_len, places_PL, PL_shift rfl (by omega) hL (fun k hk => lacks_ge hk), rowOf_shift]
theorem rod_least {t : Int} (ht : 1 ≤ t) {k : Nat} (hk : (k : Int) < t) : ∀ (l : List Int) (b : Nat), Up l → (∀ x ∈ l, x % t = (k : Int) ∧ (b : Int) * t + (k : Int) ≤ x) → 2 * l.sum ≥ 2 * ((b : Int) * t + (k : Int)) * (l.length : Int) + t * (l.length : Int) * ((l.length : Int) - 1)
  | [], b, _, _ => by show 2 * (0 : Int) ≥ _; grind
  | x :: l, b, hu, h => by
    have a := List.pairwise_cons.mp hu
    have hx := h x (List.mem_cons_self ..)
    have ih := rod_least ht hk l (b + 1) a.2 fun y hy => by
      have hy1 := h y (List.mem_cons_of_mem _ hy)
      refine ⟨hy1.1, ?_⟩
      have lt := a.1 y hy
      have f1 := Int.emod_add_mul_ediv x t
      have f2 := Int.emod_add_mul_ediv y t
      have g : x / t < y / t := by
        refine Int.lt_of_mul_lt_mul_left (a := t) ?_ (by omega)
        omega
      have g2 : (b : Int) ≤ x / t := by
        have : (b : Int) * t ≤ (x / t) * t := by have := Int.mul_comm t (x / t); omega
        exact Int.le_of_mul_le_mul_right this (by omega)
      have g3 := Int.mul_le_mul_of_nonneg_left (show (b : Int) + 1 ≤ y / t by omega) (show 0 ≤ t by omega)
      have e : (((b + 1 : Nat) : Int)) * t = t * ((b : Int) + 1) := by grind
      rw [e]
      omega
    rw [List.sum_cons, List.length_cons]
    have e1 : ((l.length + 1 : Nat) : Int) = (l.length : Int) + 1 := by omega
    have e2 : ((b + 1 : Nat) : Int) = (b : Int) + 1 := by omega
    rw [e1]
    rw [e2] at ih
    have hx2 := hx.2
    have e3 : 2 * (((b : Int) + 1) * t + (k : Int)) * (l.length : Int) + t * (l.length : Int) * ((l.length : Int) - 1) + 2 * ((b : Int) * t + (k : Int)) = 2 * ((b : Int) * t + (k : Int)) * ((l.length : Int) + 1) + t * ((l.length : Int) + 1) * ((l.length : Int) + 1 - 1) := by grind
    omega

theorem sumR_pick (x : Int) (j : Nat) : ∀ i : Nat, ((List.range i).map fun (k : Nat) => if j = k then x else 0).sum = if j < i then x else 0
  | 0 => by rw [if_neg (Nat.not_lt_zero j)]; rfl
  | i + 1 => by
    have ih := sumR_pick x j i
    rw [List.range_succ, List.map_append, List.sum_append, ih]
    have e : (List.map (fun (k : Nat) => if j = k then x else 0) [i]).sum = if j = i then x else 0 := by simp
    rw [e]
    by_cases z : j = i
    · rw [if_pos z, if_neg (by omega), if_pos (by omega)]; omega
    · rw [if_neg z]
      by_cases y : j < i
      · rw [if_pos y, if_pos (by omega)]; omega
      · rw [if_neg y, if_neg (by omega)]; rfl
theorem rods_sum {t : Int} (ht : 1 ≤ t) : ∀ l : List Int, ((List.range t.toNat).map fun (k : Nat) => (l.filter fun x => decide (x % t = 0 + (k : Int))).sum).sum = l.sum
  | [] => by
    show ((List.range t.toNat).map fun (k : Nat) => (0 : Int)).sum = 0
    rw [sum_map_const]; omega
  | x :: l => by
    have ih := rods_sum ht l
    have a := Int.emod_nonneg x (b := t) (by omega)
    have b := Int.emod_lt_of_pos x (b := t) (by omega)
    have e : ((List.range t.toNat).map fun (k : Nat) => ((x :: l).filter fun x => decide (x % t = 0 + (k : Int))).sum) = (List.range t.toNat).map fun (k : Nat) => (if (x % t).toNat = k then x else 0) + (l.filter fun x => decide (x % t = 0 + (k : Int))).sum := by
      refine List.map_congr_left fun k _ => ?_
      rw [List.filter_cons]
      by_cases z : x % t = 0 + (k : Int)
      · rw [if_pos (decide_eq_true z), if_pos (by omega), List.sum_cons]
      · rw [if_neg (by rw [decide_eq_false z]; decide), if_neg (by omega)]; omega
    rw [e, sum_map_add, ih, sumR_pick, if_pos (by omega), List.sum_cons]
theorem PL_sums (ns : List Int) (t s : Int) : ∀ i : Nat, (PL ns t s i).sum = ((List.range i).map fun (k : Nat) => (rodP t s (ns.getD k 0) k).sum).sum
  | 0 => rfl
  | i + 1 => by
    rw [PL_succ, List.sum_append, PL_sums ns t s i, List.range_succ, List.map_append, List.sum_append]
    simp only [List.map_cons, List.map_nil, List.sum_cons, List.sum_nil, Int.add_zero]
theorem sum_map_le {α : Type} (l : List α) (f g : α → Int) (h : ∀ x ∈ l, f x ≤ g x) : (l.map f).sum ≤ (l.map g).sum := by
  induction l with
  | nil => exact Int.le_refl _
  | cons a l ih =>
    have := h a (List.mem_cons_self ..)
    have := ih fun x hx => h x (List.mem_cons_of_mem _ hx)
    simp only [List.map_cons, List.sum_cons]
    omega
theorem core_le {r : List Int} {t : Int} (hr : IsRow r) (h1 : 1 ≤ t) : (coreM r t).sum ≤ r.sum := by
  have hcl := charges_len r t
  obtain ⟨ns, hns⟩ : ∃ ns, ns = chargesM r t := ⟨_, rfl⟩
  obtain ⟨s, hs⟩ : ∃ s, s = shareM r t := ⟨_, rfl⟩
  have hm := share_mul r h1
  rw [← hs] at hm
  have hlo : ∀ k : Nat, k < ns.length → 0 ≤ s + ns.getD k 0 := fun k hk => by
    rw [hns, hs]
    exact charges_lo (by rw [hns, hcl] at hk; exact hk)
  have hsum : ns.sum = 0 := by rw [hns]; exact charges_sum h1
  have hnl : (ns.length : Int) = t := by rw [hns, hcl]; omega
  have htn : t.toNat = ns.length := by omega
  have hpos := isRow_pos hr
  obtain ⟨S, hS⟩ : ∃ S, S = beadsM r (s * t).toNat := ⟨_, rfl⟩
  have hSl : ((S.length : Nat) : Int) = s * t := by rw [hS, beads_len]; omega
  have hSr : Rise S := by
    rw [hS]
    exact beads_rise (fun x hx => by have := hpos x hx; omega) (isRow_pair hr) (by omega)
  have e1 : rowOfM S = r := by rw [hS]; exact rowOf_beads hpos (by omega)
  have a1 := rowOf_sum hSr
  rw [e1, hSl] at a1
  have hPr : Rise (sortI (PL ns t s ns.length)) := up_rise (PL_up (by omega)) (PL_pos (by omega))
  have a2 := rowOf_sum hPr
  have hPl : (((sortI (PL ns t s ns.length)).length : Nat) : Int) = s * t := by
    rw [(sortI_perm _).length_eq, PL_len (Nat.le_refl _) hlo, List.take_length, hsum, hnl]
    omega
  rw [hPl, perm_sum (sortI_perm _)] at a2
  have e2 : coreM r t = rowOfM (sortI (PL ns t s ns.length)) := by
    unfold coreM
    rw [← hns, core_any (by omega) hlo, hnl]
  rw [e2]
  have key : (PL ns t s ns.length).sum ≤ S.sum := by
    rw [PL_sums, ← rods_sum h1 S, htn]
    refine sum_map_le _ _ _ fun k hk => ?_
    have hk' := List.mem_range.mp hk
    have c := rod_least h1 (k := k) (by omega) (S.filter fun x => decide (x % t = 0 + (k : Int))) 0 ((rise_up hSr).filter _) fun x hx => by
      obtain ⟨y1, y2⟩ := List.mem_filter.mp hx
      have y3 := of_decide_eq_true y2
      refine ⟨by omega, ?_⟩
      have h0 : 0 ≤ x := by
        obtain ⟨i, hi, e⟩ := List.getElem_of_mem y1
        rw [← e, getD_elem hi]
        exact rise_pos hSr i hi
      have f1 := Int.emod_add_mul_ediv x t
      have f2 : 0 ≤ t * (x / t) := Int.mul_nonneg (by omega) (Int.ediv_nonneg h0 (by omega))
      have e0 : ((0 : Nat) : Int) * t = 0 := by grind
      rw [e0]
      omega
    have d := rod_sum t s (ns.getD k 0) k
    have hc := charges_at (r := r) (t := t) (k := k) (by omega)
    rw [← hns, ← hs, ← hS, hOn_length] at hc
    have ec : (((s + ns.getD k 0).toNat : Nat) : Int) = ((S.filter fun x => decide (x % t = 0 + (k : Int))).length : Int) := by
      have := hlo k hk'
      omega
    rw [ec] at d
    have e0 : ((0 : Nat) : Int) * t + (k : Int) = (k : Int) := by grind
    rw [e0] at c
    have e4 : 2 * (k : Int) * ((S.filter fun x => decide (x % t = 0 + (k : Int))).length : Int) + t * ((S.filter fun x => decide (x % t = 0 + (k : Int))).length : Int) * (((S.filter fun x => decide (x % t = 0 + (k : Int))).length : Int) - 1) = t * ((S.filter fun x => decide (x % t = 0 + (k : Int))).length : Int) * (((S.filter fun x => decide (x % t = 0 + (k : Int))).length : Int) - 1) + 2 * (k : Int) * ((S.filter fun x => decide (x % t = 0 + (k : Int))).length : Int) := by omega
    omega
  omega
theorem sum_range : ∀ {r : List Int}, (∀ x ∈ r, 0 ≤ x) → ((((List.range r.length).map fun (k : Nat) => (r.getD k 0).toNat).sum : Nat) : Int) = r.sum
  | [], _ => rfl
  | x :: r, h => by
    have ih := sum_range (r := r) fun y hy => h y (List.mem_cons_of_mem _ hy)
    have hx := h x (List.mem_cons_self ..)
    rw [List.length_cons, List.range_succ_eq_map, List.map_cons, List.map_map, List.sum_cons, List.sum_cons]
    have e : (List.range r.length).map ((fun (k : Nat) => ((x :: r).getD k 0).toNat) ∘ Nat.succ) = (List.range r.length).map fun (k : Nat) => (r.getD k 0).toNat := by
      refine List.map_congr_left fun k _ => ?_
      show ((x :: r).getD (k + 1) 0).toNat = (r.getD k 0).toNat
      rw [List.getD_cons_succ]
    rw [e]
    have e2 : (x :: r).getD 0 0 = x := rfl
    rw [e2]
    omega
theorem flat_len {r : List Int} (h : ∀ x ∈ r, 1 ≤ x) : ((hooksM r).flatten.length : Int) = r.sum := by
  rw [List.length_flatten]
  have e : (hooksM r).map List.length = (List.range r.length).map fun (k : Nat) => (r.getD k 0).toNat := by
    unfold hooksM
    rw [List.map_map]
    refine List.map_congr_left fun k _ => ?_
    show (hookLine r k).length = _
    unfold hookLine
    rw [List.length_map, List.length_range]
  rw [e]
  exact sum_range fun x hx => by have := h x hx; omega
theorem hook_bounds {r : List Int} (hrow : IsRow r) {x : Int} (hx : x ∈ (hooksM r).flatten) : 1 ≤ x ∧ x ≤ r.getD 0 0 + (r.length : Int) - 1 := by
  obtain ⟨l, hl, hxl⟩ := List.mem_flatten.mp hx
  unfold hooksM at hl
  obtain ⟨k, hk, e⟩ := List.mem_map.mp hl
  have hk' : k < r.length := List.mem_range.mp hk
  rw [← e] at hxl
  unfold hookLine at hxl
  obtain ⟨j, hj, e2⟩ := List.mem_map.mp hxl
  have hj' := List.mem_range.mp hj
  have h1 := linesAt_le (r.drop (k + 1)) ((j : Nat) : Int)
  rw [List.length_drop] at h1
  have h2 := fall_le hrow.2 k 0 (by omega)
  rw [Nat.zero_add] at h2
  omega
theorem rowOf_isRow {l : List Int} (h : Rise l) : IsRow (rowOfM l) := by
  refine isRow_iff.mpr ⟨fun x hx => ?_, ?_⟩
  · unfold rowOfM at hx
    have := of_decide_eq_true (List.mem_filter.mp hx).2
    omega
  · unfold rowOfM
    refine List.Pairwise.filter _ ?_
    rw [List.pairwise_reverse]
    exact (gapsOf_up h).2
theorem cnt_sub {x d : Int} : ∀ {F : List Int}, F.Nodup → (F.map fun y => x - y).count d = if x - d ∈ F then 1 else 0
  | [], _ => by rw [if_neg (by simp)]; rfl
  | y :: F, h => by
    have a := List.nodup_cons.mp h
    have ih := cnt_sub (x := x) (d := d) a.2
    rw [List.map_cons, List.count_cons, ih]
    by_cases z : x - y = d
    · have e : x - d = y := by omega
      rw [if_neg (by rw [e]; exact a.1), if_pos (by simpa using z), if_pos (by rw [e]; exact List.mem_cons_self ..)]
    · have e1 : (if (x - y == d) = true then 1 else 0) = 0 := if_neg (by simpa using z)
      rw [e1, Nat.add_zero]
      by_cases m : x - d ∈ F
      · rw [if_pos m, if_pos (List.mem_cons_of_mem _ m)]
      · rw [if_neg m, if_neg (fun q => by
          rcases List.mem_cons.mp q with e | e
          · omega
          · exact m e)]
def dC (S : List Int) (d x : Int) : Bool := decide (1 ≤ d ∧ d ≤ x ∧ ¬ x - d ∈ S)
def dCount (S : List Int) (d : Int) : Nat := (S.filter (dC S d)).length
theorem mem_seqI {a y : Int} {n : Nat} : y ∈ seqI a n ↔ a ≤ y ∧ y < a + (n : Int) := by
  unfold seqI
  rw [List.mem_map]
  constructor
  · rintro ⟨k, hk, rfl⟩
    have := List.mem_range.mp hk
    omega
  · rintro ⟨h1, h2⟩
    exact ⟨(y - a).toNat, List.mem_range.mpr (by omega), by omega⟩
theorem seqI_nodup (a : Int) (n : Nat) : (seqI a n).Nodup := by
  unfold seqI
  rw [List.nodup_iff_pairwise_ne, List.pairwise_map]
  exact List.pairwise_lt_range.imp fun h => by omega
theorem stP_rev : ∀ {l : List Int}, Up l.reverse → (∀ x ∈ l, 0 ≤ x) →
    (stP l.reverse).1 = l.headD (-1) + 1 ∧ (∀ z ∈ l, z < (stP l.reverse).1) ∧ (∀ y, y ∈ (stP l.reverse).2.1 ↔ 0 ≤ y ∧ y < (stP l.reverse).1 ∧ ¬ y ∈ l) ∧ (stP l.reverse).2.1.Nodup ∧
    ∀ d, ((stP l.reverse).2.2.map fun p => p.1 - p.2).count d = (l.filter (dC l d)).length
  | [], _, _ => ⟨rfl, fun z hz => (by cases hz), fun y => ⟨fun h => (by cases h), fun ⟨a, b, _⟩ => absurd (show y < 0 from b) (by omega)⟩, List.nodup_nil, fun d => rfl⟩
  | x :: l, hu, h0 => by
    rw [List.reverse_cons] at hu
    have hu2 := List.pairwise_append.mp hu
    obtain ⟨i1, i2, i3, i4, i5⟩ := stP_rev hu2.1 fun z hz => h0 z (List.mem_cons_of_mem _ hz)
    have hlx : ∀ z ∈ l, z < x := fun z hz => hu2.2.2 z (List.mem_reverse.mpr hz) x (List.mem_singleton.mpr rfl)
    have hx0 := h0 x (List.mem_cons_self ..)
    have hle : (stP l.reverse).1 ≤ x := by
      rw [i1]
      cases l with
      | nil => show (-1 : Int) + 1 ≤ x; omega
      | cons z l => have := hlx z (List.mem_cons_self ..); show z + 1 ≤ x; omega
    have h00 : 0 ≤ (stP l.reverse).1 := by
      rw [i1]
      cases l with
      | nil => show (0 : Int) ≤ -1 + 1; omega
      | cons z l => have := h0 z (List.mem_cons_of_mem _ (List.mem_cons_self ..)); show 0 ≤ z + 1; omega
    have est : stP (x :: l).reverse = stepP (stP l.reverse) x := by
      unfold stP
      rw [List.reverse_cons, List.foldl_append]
      rfl
    obtain ⟨u, F, G, hst⟩ : ∃ u F G, stP l.reverse = (u, F, G) := ⟨_, _, _, rfl⟩
    rw [hst] at i1 i2 i3 i4 i5 hle h00
    dsimp only at i1 i2 i3 i4 i5 hle h00
    obtain ⟨F', hF'⟩ : ∃ F', F' = F ++ seqI u (x - u).toNat := ⟨_, rfl⟩
    have e2 : stP (x :: l).reverse = (x + 1, F', G ++ F'.map fun y => (x, y)) := by rw [est, hst, hF']; rfl
    have hmem : ∀ y, y ∈ F' ↔ 0 ≤ y ∧ y < x + 1 ∧ ¬ y ∈ x :: l := fun y => by
      rw [hF', List.mem_append, i3, mem_seqI, List.mem_cons]
      constructor
      · rintro (⟨a, b, c⟩ | ⟨a, b⟩)
        · exact ⟨a, by omega, fun z => by rcases z with z | z; omega; exact c z⟩
        · refine ⟨by omega, by omega, fun z => ?_⟩
          rcases z with z | z
          · omega
          · have := i2 y z; omega
      · rintro ⟨a, b, c⟩
        have n1 : y ≠ x := fun e => c (.inl e)
        have n2 : ¬ y ∈ l := fun e => c (.inr e)
        by_cases q : y < u
        · exact .inl ⟨a, q, n2⟩
        · exact .inr ⟨by omega, by omega⟩
    have hnd : F'.Nodup := by
      rw [hF', List.nodup_append]
      refine ⟨i4, seqI_nodup _ _, fun a ha b hb e => ?_⟩
      have := (i3 a).mp ha
      have := mem_seqI.mp hb
      omega
    rw [e2]
    refine ⟨rfl, fun z hz => ?_, hmem, hnd, fun d => ?_⟩
    · rcases List.mem_cons.mp hz with e | e
      · show z < x + 1; omega
      · have := hlx z e; show z < x + 1; omega
    · show ((G ++ F'.map fun y => (x, y)).map fun p => p.1 - p.2).count d = _
      rw [List.map_append, List.count_append, i5, List.map_map]
      have e3 : (F'.map ((fun p : Int × Int => p.1 - p.2) ∘ fun y => (x, y))).count d = if x - d ∈ F' then 1 else 0 := cnt_sub hnd
      rw [e3, List.filter_cons]
      have e4 : l.filter (dC (x :: l) d) = l.filter (dC l d) := List.filter_congr fun z hz => by
        have := hlx z hz
        unfold dC
        refine decide_eq_decide.mpr ⟨fun ⟨a, b, c⟩ => ⟨a, b, fun q => c (List.mem_cons_of_mem _ q)⟩, fun ⟨a, b, c⟩ => ⟨a, b, fun q => ?_⟩⟩
        rcases List.mem_cons.mp q with e | e
        · omega
        · exact c e
      rw [e4]
      by_cases q : x - d ∈ F'
      · have := (hmem _).mp q
        have n1 : x - d ≠ x := fun e => this.2.2 (by rw [e]; exact List.mem_cons_self ..)
        rw [if_pos q, if_pos (show dC (x :: l) d x = true from decide_eq_true ⟨by omega, by omega, this.2.2⟩), List.length_cons]
      · rw [if_neg q, if_neg (show ¬ dC (x :: l) d x = true from fun w => q ((hmem _).mpr (by have := of_decide_eq_true w; exact ⟨by omega, by omega, this.2.2⟩)))]
        omega
theorem dC_congr {S T : List Int} (h : ∀ x, x ∈ S ↔ x ∈ T) (d x : Int) : dC S d x = dC T d x := decide_eq_decide.mpr ⟨fun ⟨a, b, c⟩ => ⟨a, b, fun q => c ((h _).mpr q)⟩, fun ⟨a, b, c⟩ => ⟨a, b, fun q => c ((h _).mp q)⟩⟩
theorem pairs_count {S : List Int} (h : Up S) (h0 : ∀ x ∈ S, 0 ≤ x) (d : Int) : ((pairsM S).map fun p => p.1 - p.2).count d = dCount S d := by
  have := (stP_rev (l := S.reverse) (by rw [List.reverse_reverse]; exact h) fun x hx => h0 x (List.mem_reverse.mp hx)).2.2.2.2 d
  rw [List.reverse_reverse] at this
  unfold pairsM dCount
  rw [this]
  have e : S.reverse.filter (dC S.reverse d) = (S.filter (dC S d)).reverse := by
    rw [← List.filter_reverse]
    exact List.filter_congr fun x _ => dC_congr (fun y => List.mem_reverse) d x
  rw [e, List.length_reverse]
theorem mem_hOn {S : List Int} {t k y : Int} (ht : 1 ≤ t) (h0 : 0 ≤ k) (hk : k < t) : y ∈ hOn S t k ↔ y * t + k ∈ S := by
  unfold hOn
  rw [List.mem_map]
  constructor
  · rintro ⟨x, hx, rfl⟩
    obtain ⟨a, b⟩ := List.mem_filter.mp hx
    have b := of_decide_eq_true b
    have f := Int.emod_add_mul_ediv x t
    have := Int.mul_comm t (x / t)
    have e : x / t * t + k = x := by omega
    rw [e]; exact a
  · intro h
    have m := hk_mod (t := t) (h := y) (k := k) h0 hk
    exact ⟨_, List.mem_filter.mpr ⟨h, decide_eq_true m.1⟩, m.2⟩
theorem dCount_rods {S : List Int} {t e : Int} (ht : 1 ≤ t) : (dCount S (t * e) : Int) = ((List.range t.toNat).map fun (k : Nat) => (dCount (hOn S t (0 + (k : Int))) e : Int)).sum := by
  unfold dCount
  rw [← rods_all ht (S.filter (dC S (t * e)))]
  congr 1
  refine List.map_congr_left fun k hk => ?_
  have hk' := List.mem_range.mp hk
  congr 1
  have e1 : (hOn S t (0 + (k : Int))).filter (dC (hOn S t (0 + (k : Int))) e) = ((S.filter fun x => decide (x % t = 0 + (k : Int))).filter ((dC (hOn S t (0 + (k : Int))) e) ∘ fun p => p / t)).map fun p => p / t := by
    conv => lhs; rw [hOn]
    rw [List.filter_map]
    rfl
  rw [e1, List.length_map, List.filter_filter, List.filter_filter]
  congr 1
  refine List.filter_congr fun x _ => ?_
  by_cases z : x % t = 0 + (k : Int)
  · rw [decide_eq_true z, Bool.true_and, Bool.and_true]
    refine decide_eq_decide.mpr ?_
    have f := Int.emod_add_mul_ediv x t
    have hm : x / t - e ∈ hOn S t (0 + (k : Int)) ↔ x - t * e ∈ S := by
      rw [mem_hOn ht (by omega) (by omega)]
      have e5 : (x / t - e) * t + (0 + (k : Int)) = x - t * e := by
        have e6 : (x / t - e) * t = t * (x / t) - t * e := by grind
        omega
      rw [e5]
    constructor
    · rintro ⟨a, b, c⟩
      have p1 : 1 ≤ e := by
        by_cases w : 1 ≤ e
        · exact w
        · have := Int.mul_le_mul_of_nonneg_left (show e ≤ 0 by omega) (show 0 ≤ t by omega)
          omega
      have p2 : e ≤ x / t := by
        have : e < x / t + 1 := by
          refine Int.lt_of_mul_lt_mul_left (a := t) ?_ (by omega)
          have : t * (x / t + 1) = t * (x / t) + t := by grind
          have := Int.emod_lt_of_pos x (b := t) (by omega)
          omega
        omega
      exact ⟨p1, p2, fun q => c (hm.mp q)⟩
    · rintro ⟨a, b, c⟩
      have b : e ≤ x / t := b
      have p1 := Int.mul_le_mul_of_nonneg_left a (show 0 ≤ t by omega)
      have p2 := Int.mul_le_mul_of_nonneg_left b (show 0 ≤ t by omega)
      exact ⟨by omega, by omega, fun q => c (hm.mpr q)⟩
  · rw [decide_eq_false z, Bool.false_and, Bool.and_false]
theorem hOn_up {S : List Int} {t : Int} {k : Nat} (ht : 1 ≤ t) (h : Up S) : Up (hOn S t (0 + (k : Int))) := by
  unfold hOn
  rw [Up, List.pairwise_map]
  refine (h.filter _).imp_of_mem fun {a b} ha hb hab => ?_
  have a1 := of_decide_eq_true (List.mem_filter.mp ha).2
  have b1 := of_decide_eq_true (List.mem_filter.mp hb).2
  have f1 := Int.emod_add_mul_ediv a t
  have f2 := Int.emod_add_mul_ediv b t
  refine Int.lt_of_mul_lt_mul_left (a := t) ?_ (by omega)
  omega
theorem hOn_pos {S : List Int} {t : Int} {k : Nat} (ht : 1 ≤ t) (h : ∀ x ∈ S, 0 ≤ x) : ∀ y ∈ hOn S t (0 + (k : Int)), 0 ≤ y := fun y hy => by
  unfold hOn at hy
  obtain ⟨x, hx, rfl⟩ := List.mem_map.mp hy
  exact Int.ediv_nonneg (h x (List.mem_filter.mp hx).1) (by omega)
theorem cnt_mul {t e : Int} (ht : 1 ≤ t) : ∀ l : List Int, (l.map fun h => h * t).count (t * e) = l.count e
  | [] => rfl
  | x :: l => by
    rw [List.map_cons, List.count_cons, List.count_cons, cnt_mul ht l]
    congr 1
    by_cases z : x = e
    · have e1 : (x * t == t * e) = true := by rw [z, Int.mul_comm]; exact beq_self_eq_true _
      have e2 : (x == e) = true := by rw [z]; exact beq_self_eq_true _
      rw [if_pos e1, if_pos e2]
    · have e1 : ¬ (x * t == t * e) = true := fun w => by
        have w := eq_of_beq w
        have : x * t = e * t := by rw [w, Int.mul_comm]
        exact z (Int.eq_of_mul_eq_mul_right (by omega) this)
      have e2 : ¬ (x == e) = true := fun w => z (eq_of_beq w)
      rw [if_neg e1, if_neg e2]
def quotM (r : List Int) (t : Int) : List (List Int) := (partedM r t).map rowOfM
def leftM (r : List Int) (t : Int) : List Int := (hooksM r).flatten.filter fun h => decide (h % t = 0)
def rightM (r : List Int) (t : Int) : List Int := ((quotM r t).map fun q => (hooksM q).flatten.map fun h => h * t).flatten
theorem row_hooks {S : List Int} (h : Up S) (h0 : ∀ x ∈ S, 0 ≤ x) (d : Int) : (hooksM (rowOfM S)).flatten.count d = dCount S d := by
  have hr := up_rise h h0
  have a := rowOf_isRow hr
  have b := diffs_hooks (r := rowOfM S) (m := S.length) (isRow_pos a) (isRow_pair a) (rowOf_len S)
  rw [beads_rowOf hr] at b
  rw [← b.count_eq, pairs_count h h0]
theorem quot_perm {r : List Int} {t : Int} (hr : IsRow r) (ht : 1 ≤ t) : (leftM r t).Perm (rightM r t) := by
  have hpos := isRow_pos hr
  have hm := share_mul r ht
  obtain ⟨S, hS⟩ : ∃ S, S = beadsM r (shareM r t * t).toNat := ⟨_, rfl⟩
  have hSr : Rise S := by
    rw [hS]
    exact beads_rise (fun x hx => by have := hpos x hx; omega) (isRow_pair hr) (by omega)
  have hSu := rise_up hSr
  have hS0 : ∀ x ∈ S, 0 ≤ x := fun x hx => by
    obtain ⟨i, hi, e⟩ := List.getElem_of_mem hx
    rw [← e, getD_elem hi]
    exact rise_pos hSr i hi
  have e1 : rowOfM S = r := by rw [hS]; exact rowOf_beads hpos (by omega)
  refine List.perm_iff_count.mpr fun d => ?_
  unfold leftM rightM quotM partedM
  rw [← hS, List.count_flatten, List.map_map, List.map_map, List.map_map]
  by_cases z : d % t = 0
  · obtain ⟨e, rfl⟩ : ∃ e, d = t * e := ⟨d / t, by have := Int.emod_add_mul_ediv d t; omega⟩
    rw [List.count_filter (p := fun h => decide (h % t = 0)) (decide_eq_true z), ← e1, row_hooks hSu hS0]
    have c := dCount_rods (S := S) (e := e) ht
    have e2 : ((List.range t.toNat).map fun (k : Nat) => (dCount (hOn S t (0 + (k : Int))) e : Int)).sum = ((((List.range t.toNat).map fun (k : Nat) => dCount (hOn S t (0 + (k : Int))) e).sum : Nat) : Int) := by
      generalize List.range t.toNat = l
      induction l with
      | nil => rfl
      | cons a l ih => simp only [List.map_cons, List.sum_cons, ih]; omega
    rw [e2] at c
    have c' : dCount S (t * e) = ((List.range t.toNat).map fun (k : Nat) => dCount (hOn S t (0 + (k : Int))) e).sum := by omega
    rw [c']
    congr 1
    refine List.map_congr_left fun k _ => ?_
    show _ = ((hooksM (rowOfM (hOn S t (0 + (k : Int))))).flatten.map fun h => h * t).count (t * e)
    rw [cnt_mul ht, row_hooks (hOn_up ht hSu) (hOn_pos ht hS0)]
  · have m0 : ((hooksM r).flatten.filter fun h => decide (h % t = 0)).count d = 0 := List.count_eq_zero.mpr fun m => z (of_decide_eq_true (p := d % t = 0) (List.mem_filter.mp m).2)
    rw [m0]
    symm
    have : ∀ l : List Nat, (l.map (((List.count d ∘ fun q => (hooksM q).flatten.map fun h => h * t) ∘ rowOfM) ∘ fun (k : Nat) => hOn S t (0 + (k : Int)))).sum = 0 := fun l => by
      induction l with
      | nil => rfl
      | cons k l ih =>
        rw [List.map_cons, List.sum_cons, ih]
        show ((hooksM (rowOfM (hOn S t (0 + (k : Int))))).flatten.map fun h => h * t).count d + 0 = 0
        rw [List.count_eq_zero.mpr fun m => by
          obtain ⟨h, _, e⟩ := List.mem_map.mp m
          refine z ?_
          rw [← e]
          exact Int.mul_emod_left h t]
    exact this _

theorem rowOf_rng (c : Nat) : rowOfM (rngI c) = [] := by
  have e : rngI c = shiftI c [] := by unfold shiftI; rw [List.map_nil, List.append_nil]
  rw [e, rowOf_shift]
  rfl
theorem core_iff {r : List Int} {t : Int} (hr : IsRow r) (h1 : 1 ≤ t) : coreM r t = r ↔ leftM r t = [] := by
  have hcl := charges_len r t
  have hp := quot_perm hr h1
  obtain ⟨ns, hns⟩ : ∃ ns, ns = chargesM r t := ⟨_, rfl⟩
  obtain ⟨s, hs⟩ : ∃ s, s = shareM r t := ⟨_, rfl⟩
  have hm := share_mul r h1
  rw [← hs] at hm
  have hlo : ∀ k : Nat, k < ns.length → 0 ≤ s + ns.getD k 0 := fun k hk => by
    rw [hns, hs]
    exact charges_lo (by rw [hns, hcl] at hk; exact hk)
  have hsum : ns.sum = 0 := by rw [hns]; exact charges_sum h1
  have hnl : (ns.length : Int) = t := by rw [hns, hcl]; omega
  have htn : t.toNat = ns.length := by omega
  have hpos := isRow_pos hr
  obtain ⟨S, hS⟩ : ∃ S, S = beadsM r (s * t).toNat := ⟨_, rfl⟩
  have hSl : ((S.length : Nat) : Int) = s * t := by rw [hS, beads_len]; omega
  have hSr : Rise S := by
    rw [hS]
    exact beads_rise (fun x hx => by have := hpos x hx; omega) (isRow_pair hr) (by omega)
  have hSu := rise_up hSr
  have hS0 : ∀ x ∈ S, 0 ≤ x := fun x hx => by
    obtain ⟨i, hi, e⟩ := List.getElem_of_mem hx
    rw [← e, getD_elem hi]
    exact rise_pos hSr i hi
  have e1 : rowOfM S = r := by rw [hS]; exact rowOf_beads hpos (by omega)
  have hPr : Rise (sortI (PL ns t s ns.length)) := up_rise (PL_up (by omega)) (PL_pos (by omega))
  have hPl : (((sortI (PL ns t s ns.length)).length : Nat) : Int) = s * t := by
    rw [(sortI_perm _).length_eq, PL_len (Nat.le_refl _) hlo, List.take_length, hsum, hnl]
    omega
  have e2 : coreM r t = rowOfM (sortI (PL ns t s ns.length)) := by
    unfold coreM
    rw [← hns, core_any (by omega) hlo, hnl]
  have epart : partedM r t = (List.range t.toNat).map fun (k : Nat) => hOn S t (0 + (k : Int)) := by unfold partedM; rw [← hs, ← hS]
  constructor
  · intro h
    have eS : sortI (PL ns t s ns.length) = S := by
      have a := beads_rowOf hPr
      have b := beads_rowOf hSr
      rw [← e2, h] at a
      rw [e1] at b
      rw [← a, ← b]
      congr 1
      omega
    have hk : ∀ k : Nat, k < ns.length → rowOfM (hOn S t (0 + (k : Int))) = [] := fun k hk => by
      have a := PL_rod (ns := ns) (t := t) (s := s) hnl.symm hk
      rw [eS] at a
      have b : hOn S t (0 + (k : Int)) = rngI (s + ns.getD k 0).toNat := by
        unfold hOn
        rw [a]
        unfold rodP rngI
        rw [List.map_map]
        refine List.map_congr_left fun x _ => ?_
        exact (hk_mod (t := t) (h := (x : Int)) (k := (k : Int)) (by omega) (by omega)).2
      rw [b, rowOf_rng]
    have er : rightM r t = [] := by
      unfold rightM quotM
      rw [epart, List.map_map, List.map_map, List.flatten_eq_nil_iff]
      intro l hl
      obtain ⟨k, hk', rfl⟩ := List.mem_map.mp hl
      show ((hooksM (rowOfM (hOn S t (0 + (k : Int))))).flatten.map fun h => h * t) = []
      rw [hk k (by have := List.mem_range.mp hk'; omega)]
      rfl
    rw [er] at hp
    exact hp.eq_nil
  · intro h
    rw [h] at hp
    have er : rightM r t = [] := hp.symm.eq_nil
    have hk : ∀ k : Nat, k < ns.length → hOn S t (0 + (k : Int)) = rngI (hOn S t (0 + (k : Int))).length := fun k hk => by
      have hu := hOn_up (k := k) h1 hSu
      have h0 := hOn_pos (k := k) h1 hS0
      have hri := up_rise hu h0
      have ho := rowOf_isRow hri
      have e3 : (hooksM (rowOfM (hOn S t (0 + (k : Int))))).flatten = [] := by
        unfold rightM quotM at er
        rw [epart, List.map_map, List.map_map, List.flatten_eq_nil_iff] at er
        have := er _ (List.mem_map.mpr ⟨k, List.mem_range.mpr (by omega), rfl⟩)
        exact List.map_eq_nil_iff.mp this
      have fl := flat_len (isRow_pos ho)
      rw [e3] at fl
      have e4 : rowOfM (hOn S t (0 + (k : Int))) = [] := by
        cases hq : rowOfM (hOn S t (0 + (k : Int))) with
        | nil => rfl
        | cons x l =>
          rw [hq] at fl ho
          have a := (row_head ho).2
          have b := isRow_pos ho x (List.mem_cons_self ..)
          have c : (x :: l).headD 0 = x := rfl
          rw [c] at a
          have d : ((([] : List Int).length : Nat) : Int) = 0 := rfl
          rw [d] at fl
          omega
      have b := beads_rowOf hri
      rw [e4, beads_nil] at b
      exact b.symm
    have eS : sortI (PL ns t s ns.length) = S := by
      refine up_eq (PL_up (by omega)) hSu fun x => ?_
      rw [mem_sort, mem_PL]
      have hc : ∀ k : Nat, k < ns.length → ((hOn S t (0 + (k : Int))).length : Int) = s + ns.getD k 0 := fun k hk => by
        have := charges_at (r := r) (t := t) (k := k) (by omega)
        rw [← hns, ← hs, ← hS] at this
        omega
      constructor
      · rintro ⟨k, h, hk', hh, rfl⟩
        have a : ((h : Nat) : Int) ∈ hOn S t (0 + (k : Int)) := by
          rw [hk k hk', mem_rng, hc k hk']
          omega
        have b := (mem_hOn h1 (by omega) (by omega)).mp a
        rw [Int.zero_add] at b
        exact b
      · intro hx
        have c := Int.emod_nonneg x (b := t) (by omega)
        have d := Int.emod_lt_of_pos x (b := t) (by omega)
        have f := Int.emod_add_mul_ediv x t
        have hk' : (x % t).toNat < ns.length := by omega
        have ek : (((x % t).toNat : Nat) : Int) = x % t := by omega
        have a : x / t ∈ hOn S t (0 + (((x % t).toNat : Nat) : Int)) := by
          rw [mem_hOn h1 (by omega) (by omega), ek]
          have := Int.mul_comm t (x / t)
          have e : x / t * t + (0 + x % t) = x := by omega
          rw [e]
          exact hx
        rw [hk _ hk', mem_rng, hc _ hk'] at a
        refine ⟨(x % t).toNat, (x / t).toNat, hk', by omega, ?_⟩
        have e1 : (((x / t).toNat : Nat) : Int) = x / t := by omega
        rw [e1, ek, Int.mul_comm]
        omega
    rw [e2, eS, e1]

def spQuotX (K : PySem.W.Frag) (C : Addr) : Sp := fun vs H Q E => ∃ (a : Addr) (r : List Int) (t : Int), vs = [.ref a, .int t] ∧ SqL K H a (r.map V.int) ∧ IsRow r ∧ r.length ≤ 100 ∧ (BadRods t → E (.ref C) none H) ∧
  (1 ≤ t → t ≤ 8 → ∀ (p : Addr) (ps : List Addr) (H' : Hp), Same H H' → H p = none → LL H H' p ps (quotM r t) → Q (.ref p) H')
theorem quot_len (r : List Int) (t : Int) : (quotM r t).length = t.toNat := by unfold quotM; rw [List.length_map, parted_len]
theorem quot_at {r : List Int} {t : Int} {k : Nat} (h : k < t.toNat) : (quotM r t).getD k [] = rowOfM ((partedM r t).getD k []) := by
  unfold quotM
  have h' : k < (partedM r t).length := by rw [parted_len]; exact h
  rw [List.getD_eq_getElem?_getD, List.getElem?_map, List.getElem?_eq_getElem h', List.getD_eq_getElem?_getD, List.getElem?_eq_getElem h']
  rfl
theorem part_facts {r : List Int} {t : Int} (hr : IsRow r) (h1 : 1 ≤ t) {k : Nat} (hk : k < t.toNat) : Rise ((partedM r t).getD k []) ∧ (((partedM r t).getD k []).length : Int) ≤ (r.length : Int) + t - 1 ∧ ∀ B : Int, (∀ x ∈ r, x ≤ B) → 0 ≤ B → ∀ y ∈ (partedM r t).getD k [], y ≤ (r.length : Int) + t - 1 + B := by
  have hpos := isRow_pos hr
  have hm := share_mul r h1
  rw [parted_at hk]
  obtain ⟨S, hS⟩ : ∃ S, S = beadsM r (shareM r t * t).toNat := ⟨_, rfl⟩
  have hSr : Rise S := by
    rw [hS]
    exact beads_rise (fun x hx => by have := hpos x hx; omega) (isRow_pair hr) (by omega)
  have hS0 : ∀ x ∈ S, 0 ≤ x := fun x hx => by
    obtain ⟨i, hi, e⟩ := List.getElem_of_mem hx
    rw [← e, getD_elem hi]
    exact rise_pos hSr i hi
  rw [← hS]
  refine ⟨up_rise (hOn_up h1 (rise_up hSr)) (hOn_pos h1 hS0), ?_, fun B hB hB0 y hy => ?_⟩
  · have := hOn_len S t (0 + (k : Int))
    have e : S.length = (shareM r t * t).toNat := by rw [hS, beads_len]
    omega
  · unfold hOn at hy
    obtain ⟨x, hx, rfl⟩ := List.mem_map.mp hy
    have hxS := (List.mem_filter.mp hx).1
    have hx0 := hS0 x hxS
    have hle : x / t ≤ x := Int.ediv_le_self _ hx0
    obtain ⟨i, hi, e⟩ := List.getElem_of_mem hxS
    have hi' : i < (shareM r t * t).toNat := by rw [hS, beads_len] at hi; exact hi
    rw [getD_elem hi] at e
    have e2 : S.getD i 0 = (i : Int) + (gapsM r (shareM r t * t).toNat).getD i 0 := by rw [hS]; exact beads_at hi'
    have g : (gapsM r (shareM r t * t).toNat).getD i 0 ≤ B := by
      have hgl := gaps_len (r := r) (m := (shareM r t * t).toNat) (by omega)
      have m : (gapsM r (shareM r t * t).toNat).getD i 0 ∈ gapsM r (shareM r t * t).toNat := by rw [← getD_elem (by omega)]; exact List.getElem_mem _
      unfold gapsM at m
      rcases List.mem_append.mp m with z | z
      · have := (List.mem_replicate.mp z).2
        unfold gapsM
        omega
      · exact hB _ (List.mem_reverse.mp z)
    omega
theorem hOn_shift {l : List Int} {t e : Int} (ht : 1 ≤ t) (he : 0 ≤ e) {k : Nat} (hk : (k : Int) < t) : ((hOn (shiftI (e * t).toNat l) t (0 + (k : Int))).length : Int) = e + ((hOn l t (0 + (k : Int))).length : Int) := by
  rw [hOn_length, hOn_length]
  unfold shiftI
  have hd : 0 ≤ e * t := Int.mul_nonneg he (by omega)
  rw [List.filter_append, List.length_append, rng_rod ht he hk, rod_len, List.filter_map, List.length_map]
  have f3 : l.filter ((fun x => decide (x % t = 0 + (k : Int))) ∘ fun x => x + (((e * t).toNat : Nat) : Int)) = l.filter fun x => decide (x % t = 0 + (k : Int)) := by
    refine List.filter_congr fun x _ => ?_
    have e1 : (((e * t).toNat : Nat) : Int) = e * t := by omega
    show decide ((x + (((e * t).toNat : Nat) : Int)) % t = _) = _
    rw [e1, Int.add_mul_emod_self_right]
  rw [f3]
  omega
def lshareM (r : List Int) (t : Int) : Int := 1 + (r.length : Int) / t
theorem core_isRow {r : List Int} {t : Int} (ht : 1 ≤ t) : IsRow (coreM r t) := by
  have hcl := charges_len r t
  have hlo : ∀ k : Nat, k < (chargesM r t).length → 0 ≤ shareM r t + (chargesM r t).getD k 0 := fun k hk => charges_lo (r := r) (t := t) (k := k) (by omega)
  have e : ((chargesM r t).length : Int) = t := by omega
  unfold coreM
  rw [core_any (by omega) hlo, e, hcl]
  exact rowOf_isRow (up_rise (PL_up (by omega)) (PL_pos (by omega)))
theorem beads_up {r : List Int} {m : Nat} (hr : IsRow r) (hm : r.length ≤ m) : Up (beadsM r m) ∧ ∀ x ∈ beadsM r m, 0 ≤ x := by
  have h := beads_rise (r := r) (m := m) (fun x hx => by have := isRow_pos hr x hx; omega) (isRow_pair hr) hm
  refine ⟨rise_up h, fun x hx => ?_⟩
  obtain ⟨i, hi, e⟩ := List.getElem_of_mem hx
  rw [← e, getD_elem hi]
  exact rise_pos h i hi
theorem sum_zero {l : List Int} (h : ∀ x ∈ l, 1 ≤ x) (hs : l.sum = 0) : l = [] := by
  cases l with
  | nil => rfl
  | cons a l =>
    have ha := h a (List.mem_cons_self ..)
    have : ∀ m : List Int, (∀ x ∈ m, 1 ≤ x) → 0 ≤ m.sum := fun m => by
      induction m with
      | nil => intro _; exact Int.le_refl _
      | cons b m ih =>
        intro hm
        have := hm b (List.mem_cons_self ..)
        have := ih fun x hx => hm x (List.mem_cons_of_mem _ hx)
        rw [List.sum_cons]
        omega
    have := this l fun x hx => h x (List.mem_cons_of_mem _ hx)
    rw [List.sum_cons] at hs
    omega
theorem quot_row {r : List Int} {t : Int} (hr : IsRow r) (ht : 1 ≤ t) {k : Nat} (hk : k < t.toNat) : IsRow ((quotM r t).getD k []) := by
  rw [quot_at hk]
  exact rowOf_isRow (part_facts hr ht hk).1
theorem quot_core {c : List Int} {t : Int} (hr : IsRow c) (ht : 1 ≤ t) (hc : coreM c t = c) : quotM c t = empties t.toNat := by
  have hl := (core_iff hr ht).mp hc
  have hp := quot_perm hr ht
  rw [hl] at hp
  have hR : rightM c t = [] := hp.symm.eq_nil
  refine List.ext_getElem (by rw [quot_len, empties_len]) fun k h1 h2 => ?_
  rw [quot_len] at h1
  have e1 : (quotM c t)[k]'(by rw [quot_len]; exact h1) = (quotM c t).getD k [] := by rw [List.getD_eq_getElem?_getD, List.getElem?_eq_getElem (by rw [quot_len]; exact h1)]; rfl
  have e2 : (empties t.toNat)[k]'h2 = [] := List.eq_of_mem_replicate (n := t.toNat) (List.getElem_mem h2)
  rw [e1, e2]
  have rowk := quot_row hr ht h1
  have hm : (quotM c t).getD k [] ∈ quotM c t := by rw [← e1]; exact List.getElem_mem _
  have hz : (hooksM ((quotM c t).getD k [])).flatten = [] := by
    unfold rightM at hR
    have := List.flatten_eq_nil_iff.mp hR _ (List.mem_map.mpr ⟨_, hm, rfl⟩)
    exact List.map_eq_nil_iff.mp this
  have hf := flat_len (isRow_pos rowk)
  rw [hz] at hf
  exact sum_zero (isRow_pos rowk) hf.symm
theorem part_len {r : List Int} {t : Int} {k : Nat} (hk : k < t.toNat) : (((partedM r t).getD k []).length : Int) = shareM r t + (chargesM r t).getD k 0 := by
  rw [charges_at hk, parted_at hk]
  omega
theorem quot_short {r : List Int} {t : Int} {k : Nat} (hk : k < t.toNat) : (((quotM r t).getD k []).length : Int) ≤ shareM r t + (chargesM r t).getD k 0 := by
  rw [quot_at hk, ← part_len hk]
  have := rowOf_len ((partedM r t).getD k [])
  omega
theorem quot_beads {r : List Int} {t : Int} (hr : IsRow r) (ht : 1 ≤ t) {k : Nat} (hk : k < t.toNat) : beadsM ((quotM r t).getD k []) (shareM r t + (chargesM r t).getD k 0).toNat = (partedM r t).getD k [] := by
  have e := part_len (r := r) hk
  rw [quot_at hk, ← e, Int.toNat_natCast]
  exact beads_rowOf (part_facts hr ht hk).1
theorem filt_sum (t k : Int) : ∀ l : List Int, (l.filter fun x => decide (x % t = k)).sum = t * (hOn l t k).sum + k * ((hOn l t k).length : Int)
  | [] => by show (0 : Int) = t * 0 + k * 0; omega
  | x :: l => by
    have ih := filt_sum t k l
    unfold hOn at ih ⊢
    by_cases z : x % t = k
    · rw [List.filter_cons_of_pos (by simpa using z), List.sum_cons, List.map_cons, List.sum_cons, List.length_cons, ih]
      have := Int.emod_add_mul_ediv x t
      have e : ((((l.filter fun p => decide (p % t = k)).map fun p => p / t).length + 1 : Nat) : Int) = (((l.filter fun p => decide (p % t = k)).map fun p => p / t).length : Int) + 1 := by omega
      rw [e]
      grind
    · rw [List.filter_cons_of_neg (by simpa using z)]
      exact ih
theorem arith1 {P R Q u v w y t i : Int} (ih : 2 * P - 2 * R = t * (2 * Q)) (c : 2 * w = 2 * u - v * (v - 1)) (b : 2 * y = t * v * (v - 1) + 2 * i * v) : 2 * (P + (t * u + i * v)) - 2 * (R + y) = t * (2 * (Q + w)) := by
  have c' : 2 * u = 2 * w + v * (v - 1) := by omega
  have h0 : 2 * (t * u) = t * (2 * u) := by grind
  have h1 : t * (2 * w + v * (v - 1)) = t * (2 * w) + t * v * (v - 1) := by grind
  have h2 : t * (2 * (Q + w)) = t * (2 * Q) + t * (2 * w) := by grind
  have h3 : 2 * (P + (t * u + i * v)) = 2 * P + 2 * (t * u) + 2 * i * v := by grind
  rw [c', h1] at h0
  rw [h2, h3, h0]
  omega
theorem arith2 {rs cs SP RP Q t N : Int} (a : 2 * rs = 2 * SP - N * (N - 1)) (b : 2 * cs = 2 * RP - (N + 0) * (N + 0 - 1)) (c : 2 * SP - 2 * RP = t * (2 * Q)) : cs + t * Q = rs := by
  rw [Int.add_zero] at b
  have : t * (2 * Q) = 2 * (t * Q) := by grind
  omega
theorem size_split {r : List Int} {t : Int} (hr : IsRow r) (ht : 1 ≤ t) : (coreM r t).sum + t * ((quotM r t).map fun q => q.sum).sum = r.sum := by
  have hcl := charges_len r t
  have hql := quot_len r t
  have hm := share_mul r ht
  have etn : ((t.toNat : Nat) : Int) = t := by omega
  have ecl : ((chargesM r t).length : Int) = t := by omega
  obtain ⟨s, hs⟩ : ∃ s, s = shareM r t := ⟨_, rfl⟩
  obtain ⟨S, hS⟩ : ∃ S, S = beadsM r (s * t).toNat := ⟨_, rfl⟩
  rw [← hs] at hm
  have hb := beads_up (m := (s * t).toNat) hr (by omega)
  rw [← hS] at hb
  have hSl : (S.length : Int) = s * t := by rw [hS, beads_len]; omega
  have rS := rowOf_sum (up_rise hb.1 hb.2)
  have eS : rowOfM S = r := by rw [hS]; exact rowOf_beads (isRow_pos hr) (by omega)
  rw [eS, hSl] at rS
  have hlo : ∀ k : Nat, k < (chargesM r t).length → 0 ≤ s + (chargesM r t).getD k 0 := fun k hk => by rw [hs]; exact charges_lo (by omega)
  have eC : coreM r t = rowOfM (sortI (PL (chargesM r t) t s (chargesM r t).length)) := by
    unfold coreM
    rw [core_any (by omega) hlo, ecl]
  have rC := rowOf_sum (up_rise (PL_up (ns := chargesM r t) (t := t) (s := s) (i := (chargesM r t).length) (by omega)) (PL_pos (by omega)))
  have pC := PL_len (ns := chargesM r t) (t := t) (s := s) (i := (chargesM r t).length) (Nat.le_refl _) hlo
  rw [List.take_length, charges_sum ht, ecl] at pC
  rw [← eC, (sortI_perm _).length_eq, perm_sum (sortI_perm _), pC, PL_sums, hcl] at rC
  have sS := rods_sum ht S
  rw [← sS] at rS
  have key : ∀ i : Nat, i ≤ t.toNat → 2 * ((List.range i).map fun (k : Nat) => (S.filter fun x => decide (x % t = 0 + (k : Int))).sum).sum - 2 * ((List.range i).map fun (k : Nat) => (rodP t s ((chargesM r t).getD k 0) k).sum).sum = t * (2 * ((List.range i).map fun (k : Nat) => ((quotM r t).getD k []).sum).sum) := fun i => by
    induction i with
    | zero => intro _; show 2 * (0 : Int) - 2 * 0 = t * (2 * 0); omega
    | succ i ih =>
      intro hi
      have ih := ih (by omega)
      have hk : i < t.toNat := by omega
      have a := filt_sum t (0 + (i : Int)) S
      have b := rod_sum t s ((chargesM r t).getD i 0) i
      have c := rowOf_sum (part_facts hr ht hk).1
      have d := part_len (r := r) hk
      rw [← hs] at d
      have e : (partedM r t).getD i [] = hOn S t (0 + (i : Int)) := by rw [parted_at hk, ← hs, ← hS]
      rw [e] at c d
      have f : (quotM r t).getD i [] = rowOfM (hOn S t (0 + (i : Int))) := by rw [quot_at hk, e]
      have g : (((s + (chargesM r t).getD i 0).toNat : Nat) : Int) = ((hOn S t (0 + (i : Int))).length : Int) := by omega
      rw [g] at b
      rw [List.range_succ, List.map_append, List.map_append, List.map_append, List.sum_append, List.sum_append, List.sum_append]
      simp only [List.map_cons, List.map_nil, List.sum_cons, List.sum_nil, Int.add_zero]
      rw [f, a]
      rw [Int.zero_add] at c b ⊢
      exact arith1 ih c b
  have k2 := key t.toNat (Nat.le_refl _)
  have eq : (quotM r t).map (fun q => q.sum) = (List.range t.toNat).map fun (k : Nat) => ((quotM r t).getD k []).sum := by
    refine List.ext_getElem (by rw [List.length_map, List.length_map, List.length_range, hql]) fun k h1 h2 => ?_
    rw [List.getElem_map, List.getElem_map, List.getElem_range]
    rw [List.length_map] at h1
    rw [List.getD_eq_getElem?_getD, List.getElem?_eq_getElem h1]
    rfl
  rw [eq]
  exact arith2 rS rC k2

theorem nn_sum : ∀ {l : List Int}, (∀ x ∈ l, 0 ≤ x) → 0 ≤ l.sum
  | [], _ => Int.le_refl _
  | a :: l, h => by
    have := h a (List.mem_cons_self ..)
    have := nn_sum (l := l) fun x hx => h x (List.mem_cons_of_mem _ hx)
    rw [List.sum_cons]
    omega
theorem le_sum : ∀ {l : List Int}, (∀ x ∈ l, 0 ≤ x) → ∀ y ∈ l, y ≤ l.sum
  | [], _, y, h => by cases h
  | a :: l, h, y, hy => by
    have h1 := h a (List.mem_cons_self ..)
    have h2 := nn_sum (l := l) fun x hx => h x (List.mem_cons_of_mem _ hx)
    rw [List.sum_cons]
    rcases List.mem_cons.mp hy with z | z
    · omega
    · have := le_sum (l := l) (fun x hx => h x (List.mem_cons_of_mem _ hx)) y z
      omega
theorem row_sum {q : List Int} (h : IsRow q) : 0 ≤ q.sum ∧ ∀ x ∈ q, 1 ≤ x ∧ x ≤ q.sum := by
  have hp := isRow_pos h
  have hn : ∀ x ∈ q, 0 ≤ x := fun x hx => by have := hp x hx; omega
  exact ⟨nn_sum hn, fun x hx => ⟨hp x hx, le_sum hn x hx⟩⟩
theorem quot_sums {r : List Int} {t : Int} (hr : IsRow r) (ht : 1 ≤ t) (h60 : r.sum ≤ 60) {k : Nat} (hk : k < t.toNat) : 0 ≤ ((quotM r t).getD k []).sum ∧ ((quotM r t).getD k []).sum ≤ 60 := by
  have hs := size_split hr ht
  have hc := (row_sum (core_isRow (r := r) ht)).1
  have hn : ∀ x ∈ (quotM r t).map (fun q => q.sum), 0 ≤ x := fun x hx => by
    obtain ⟨q, hq, rfl⟩ := List.mem_map.mp hx
    obtain ⟨j, hj, e⟩ := List.getElem_of_mem hq
    have hj' := hj
    rw [quot_len] at hj'
    have := quot_row hr ht hj'
    rw [List.getD_eq_getElem?_getD, List.getElem?_eq_getElem hj] at this
    rw [← e]
    exact (row_sum this).1
  have hS := nn_sum hn
  have hk' : k < (quotM r t).length := by rw [quot_len]; exact hk
  have hm : ((quotM r t).getD k []).sum ∈ (quotM r t).map (fun q => q.sum) := List.mem_map.mpr ⟨_, by rw [List.getD_eq_getElem?_getD, List.getElem?_eq_getElem hk']; exact List.getElem_mem hk', rfl⟩
  have h1 := hn _ hm
  have h2 := le_sum hn _ hm
  have h3 := Int.mul_le_mul_of_nonneg_right ht hS
  omega

def cutI (r : List Int) (lo hi : Option Int) : List Int := (r.drop (HT.sIx r.length 0 lo)).take (HT.sIx r.length r.length hi - HT.sIx r.length 0 lo)
theorem cutV_int (r : List Int) (lo hi : Option Int) : cutV (r.map V.int) lo hi = (cutI r lo hi).map V.int := by
  unfold cutV cutI
  rw [List.length_map, List.map_take, List.map_drop]
theorem cutI_len (r : List Int) (lo hi : Option Int) : (cutI r lo hi).length ≤ r.length := by
  unfold cutI
  rw [List.length_take, List.length_drop]
  omega
def wrM (r : List Int) (k j : Int) : List Int × Int :=
  ((cutI r none (some k) ++ (cutI r (some (k + 1)) (some ((linesAt r j : Int) - 1 + 1))).map (fun n => n - 1) ++ [j] ++ cutI r (some ((linesAt r j : Int) - 1 + 1)) none).filter (fun n => decide (0 < n)), (linesAt r j : Int) - 1 - k)
def idxI (ns : List Int) (v : Int) : Nat := ns.findIdx fun x => x == v
theorem idx_lt {ns : List Int} {v : Int} (h : v ∈ ns) : idxI ns v < ns.length := List.findIdx_lt_length_of_exists ⟨v, h, by simp⟩
theorem idx_at {ns : List Int} {v : Int} (h : v ∈ ns) : ns.getD (idxI ns v) 0 = v := by
  have hl := idx_lt h
  have a : (fun x => x == v) (ns[idxI ns v]) = true := List.findIdx_getElem (w := hl)
  rw [← getD_elem hl]
  simpa using a
theorem idx_no {ns : List Int} {v : Int} {m : Nat} (h : m < idxI ns v) : ns.getD m 0 ≠ v := by
  have hl : m < ns.length := Nat.lt_of_lt_of_le h List.findIdx_le_length
  have a := List.not_of_lt_findIdx h
  rw [← getD_elem hl]
  simpa using a
theorem inV_int (v : Int) (ns : List Int) : inV (.int v) (ns.map V.int) = decide (v ∈ ns) := by
  unfold inV
  rw [Bool.eq_iff_iff, List.any_eq_true, decide_eq_true_eq]
  constructor
  · rintro ⟨x, hx, e⟩
    obtain ⟨y, hy, rfl⟩ := List.mem_map.mp hx
    have : y = v := by simpa [eqV] using e
    rw [← this]; exact hy
  · intro h
    exact ⟨.int v, List.mem_map.mpr ⟨v, h, rfl⟩, by simp [eqV]⟩
def gL (r : List Int) (t : Int) (k : Nat) : List (List Int × Int) := if t ∈ hookLine r k then [wrM r (k : Int) (idxI (hookLine r k) t : Int)] else []
def fL (r : List Int) (t : Int) (i : Nat) : List (List Int × Int) := (List.range i).flatMap (gL r t)
def lesserM (r : List Int) (t : Int) : List (List Int × Int) := (fL r t r.length).reverse
theorem fL_succ (r : List Int) (t : Int) (i : Nat) : fL r t (i + 1) = fL r t i ++ gL r t i := by
  unfold fL
  rw [List.range_succ, List.flatMap_append]
  simp
theorem fL_len (r : List Int) (t : Int) : ∀ i, (fL r t i).length ≤ i
  | 0 => Nat.le_refl _
  | i + 1 => by
    have := fL_len r t i
    rw [fL_succ, List.length_append]
    unfold gL
    split
    · show _ + 1 ≤ _; omega
    · show _ + 0 ≤ _; omega
structure TLr (H : Hp) (p : Addr) (ts qs : List Addr) (L : List (List Int × Int)) : Prop where
  lt : ts.length = L.length
  lq : qs.length = L.length
  at' : H p = some (.lst (ts.map V.ref))
  tup : ∀ k : Nat, k < L.length → H (ts.getD k 0) = some (.tup [.ref (qs.getD k 0), .int (L.getD k ([], 0)).2])
  row : ∀ k : Nat, k < L.length → H (qs.getD k 0) = some (.lst ((L.getD k ([], 0)).1.map V.int))
theorem TLr.same {H H' : Hp} {p : Addr} {ts qs : List Addr} {L : List (List Int × Int)} (h : TLr H p ts qs L) (e : Same H H') : TLr H' p ts qs L := ⟨h.lt, h.lq, e _ _ h.at', fun k hk => e _ _ (h.tup k hk), fun k hk => e _ _ (h.row k hk)⟩
structure TL (H H' : Hp) (p : Addr) (ts qs : List Addr) (L : List (List Int × Int)) : Prop where
  rd : TLr H' p ts qs L
  fresh : ∀ x ∈ qs, H x = none
  nd : qs.Nodup
  np : p ∉ qs
theorem TL.nil {H H' : Hp} {p : Addr} (h : H' p = some (.lst [])) : TL H H' p [] [] [] := ⟨⟨rfl, rfl, h, fun k hk => absurd hk (Nat.not_lt_zero k), fun k hk => absurd hk (Nat.not_lt_zero k)⟩, fun _ h => absurd h (by simp), List.nodup_nil, by simp⟩
theorem getD_snocL {L : List (List Int × Int)} {x : List Int × Int} {k : Nat} (h : k < L.length) : (L ++ [x]).getD k ([], 0) = L.getD k ([], 0) := by
  rw [List.getD_eq_getElem?_getD, List.getD_eq_getElem?_getD, List.getElem?_append_left h]
theorem getD_snocX {L : List (List Int × Int)} {x : List Int × Int} : (L ++ [x]).getD L.length ([], 0) = x := by
  rw [List.getD_eq_getElem?_getD, List.getElem?_append_right (Nat.le_refl _), Nat.sub_self]; rfl
theorem TL.snoc {H H2 H3 : Hp} {p t q : Addr} {ts qs : List Addr} {L : List (List Int × Int)} {x : List Int × Int} (M : TL H H2 p ts qs L) (s2 : Same H H2) (s3 : Same H2 H3) (hq : H2 q = none) (hq3 : H3 q = some (.lst (x.1.map V.int)))
    (ht3 : H3 t = some (.tup [.ref q, .int x.2])) : TL H (upd H3 p (.lst ((ts ++ [t]).map V.ref))) p (ts ++ [t]) (qs ++ [q]) (L ++ [x]) := by
  have hp2 := M.rd.at'
  have hqp : q ≠ p := (ne_of_none hp2 hq).symm
  have htp : t ≠ p := fun z => by rw [z, s3 _ _ hp2] at ht3; cases ht3
  have hqq : q ∉ qs := fun z => by
    obtain ⟨j, hj, e⟩ := memA_get z
    have := M.rd.row j (by rw [← M.rd.lq]; exact hj)
    rw [e, hq] at this
    cases this
  refine ⟨⟨by rw [List.length_append, List.length_append, M.rd.lt]; rfl, by rw [List.length_append, List.length_append, M.rd.lq]; rfl, upd_same, fun k hk => ?_, fun k hk => ?_⟩, fun y hy => ?_, ?_, fun z => ?_⟩
  · by_cases z : k = L.length
    · subst z
      have e1 : (ts ++ [t]).getD L.length 0 = t := by rw [← M.rd.lt]; exact getD_snoc_last
      have e2 : (qs ++ [q]).getD L.length 0 = q := by rw [← M.rd.lq]; exact getD_snoc_last
      rw [e1, e2, getD_snocX, upd_ne htp]
      exact ht3
    · have hk' : k < L.length := by rw [List.length_append, List.length_singleton] at hk; omega
      have h1 := s3 _ _ (M.rd.tup k hk')
      rw [getD_snoc_left (by rw [M.rd.lt]; exact hk'), getD_snoc_left (by rw [M.rd.lq]; exact hk'), getD_snocL hk', upd_ne (fun y => by rw [y, s3 _ _ hp2] at h1; cases h1)]
      exact h1
  · by_cases z : k = L.length
    · subst z
      have e2 : (qs ++ [q]).getD L.length 0 = q := by rw [← M.rd.lq]; exact getD_snoc_last
      rw [e2, getD_snocX, upd_ne hqp]
      exact hq3
    · have hk' : k < L.length := by rw [List.length_append, List.length_singleton] at hk; omega
      have h1 := s3 _ _ (M.rd.row k hk')
      rw [getD_snoc_left (by rw [M.rd.lq]; exact hk'), getD_snocL hk', upd_ne (fun y => M.np (by rw [← y]; exact getD_memA (by rw [M.rd.lq]; exact hk')))]
      exact h1
  · rcases List.mem_append.mp hy with z | z
    · exact M.fresh y z
    · have e : y = q := by simpa using z
      rw [e]; exact s2.free hq
  · rw [List.nodup_append]
    refine ⟨M.nd, by simp, fun x hx y hy => ?_⟩
    have e : y = q := by simpa using hy
    rw [e]
    rintro rfl
    exact hqq hx
  · rcases List.mem_append.mp z with z | z
    · exact M.np z
    · exact hqp (by simpa using z : p = q).symm
theorem getD_revA {ps : List Addr} {k : Nat} (h : k < ps.length) : ps.reverse.getD k 0 = ps.getD (ps.length - 1 - k) 0 := by
  rw [List.getD_eq_getElem?_getD, List.getD_eq_getElem?_getD, List.getElem?_reverse h]
theorem getD_revL {L : List (List Int × Int)} {k : Nat} (h : k < L.length) : L.reverse.getD k ([], 0) = L.getD (L.length - 1 - k) ([], 0) := by
  rw [List.getD_eq_getElem?_getD, List.getD_eq_getElem?_getD, List.getElem?_reverse h]
theorem TL.rev {H H2 H3 : Hp} {p l : Addr} {ts qs : List Addr} {L : List (List Int × Int)} (M : TL H H2 p ts qs L) (s3 : Same H2 H3) (hl : H2 l = none) (hl3 : H3 l = some (.lst (ts.map V.ref).reverse)) : TL H H3 l ts.reverse qs.reverse L.reverse := by
  refine ⟨⟨by rw [List.length_reverse, List.length_reverse]; exact M.rd.lt, by rw [List.length_reverse, List.length_reverse]; exact M.rd.lq, by rw [List.map_reverse]; exact hl3, fun k hk => ?_, fun k hk => ?_⟩, fun x hx => M.fresh x (List.mem_reverse.mp hx), (by unfold List.Nodup; rw [List.pairwise_reverse]; exact M.nd.imp fun h => Ne.symm h), fun z => ?_⟩
  · rw [List.length_reverse] at hk
    rw [getD_revA (by rw [M.rd.lt]; exact hk), getD_revA (by rw [M.rd.lq]; exact hk), getD_revL hk, M.rd.lt, M.rd.lq]
    exact s3 _ _ (M.rd.tup _ (by omega))
  · rw [List.length_reverse] at hk
    rw [getD_revA (by rw [M.rd.lq]; exact hk), getD_revL hk, M.rd.lq]
    exact s3 _ _ (M.rd.row _ (by omega))
  · obtain ⟨j, hj, e⟩ := memA_get (List.mem_reverse.mp z)
    have := M.rd.row j (by rw [← M.rd.lq]; exact hj)
    rw [e, hl] at this
    cases this
theorem comp_pos {K : PySem.W.Frag} {a D : Addr} {r : List Int} {Q : VK} {H : Hp} (hS : SqL K H a (r.map V.int)) (hlen : r.length ≤ 10000) (hD : H D = none)
    (q : ∀ H', Same H H' → H' D = some (.lst ((r.filter fun n => decide (0 < n)).map V.int)) → Q (.ref D) H') :
    CompW (Itl K a) (gName 0) (tTest (tOp (rI0 fun i j => .bl (decide (j < i))) (tVar 0) (tC (.int 0)))) (tVar 0) Q D [none] H := by
  have hl : (r.map V.int).length = r.length := List.length_map _
  have hs : sizeLine = 16777216 := sizeLine_eq
  refine comp_list (K := K) (a := a) (xs := r.map V.int) (fun i ys σ H2 => ∃ u : Option V, σ = [u] ∧ Same H H2 ∧ H2 D = some (.lst ys) ∧ ys = ((r.take i).filter fun n => decide (0 < n)).map V.int)
    ⟨none, rfl, same_new hD _, upd_same, rfl⟩ (fun i ys σ H2 _ ⟨_, _, s2, _⟩ => s2.seq hS) ?_ ?_
  · rintro i x ys σ H2 hi ⟨u, rfl, s2, hD2, rfl⟩
    have hil : i < (r.map V.int).length := (List.getElem?_eq_some_iff.mp hi).1
    rw [hl] at hil
    obtain rfl : x = V.int (r.getD i 0) := by
      rw [List.getElem?_map, getD_of hil] at hi
      exact (Option.some.inj hi).symm
    have step := take_succ_filter (fun n => decide (0 < n)) r i (r.getD i 0) (getD_of hil)
    refine ⟨_, rfl, _, _, rfl, rfl, _, rfl, ?_⟩
    refine ite2 (fun c => ?_) (fun c => ?_)
    · refine ⟨_, rfl, hD2, ?_, _, rfl, same_upd s2 hD, upd_same, ?_⟩
      · have z := List.length_filter_le (fun n : Int => decide (0 < n)) (r.take i)
        rw [List.length_map]
        rw [List.length_take] at z
        omega
      · rw [step, if_pos c, List.map_append]
        rfl
    · refine ⟨_, rfl, s2, hD2, ?_⟩
      rw [step, if_neg c, List.append_nil]
  · rintro ys σ H2 ⟨u, rfl, s2, hD2, rfl⟩
    refine q H2 s2 ?_
    rw [hl, List.take_length] at hD2
    exact hD2
theorem comp_less {K : PySem.W.Frag} {a D : Addr} {r : List Int} {Q : VK} {H : Hp} (hS : SqL K H a (r.map V.int)) (hlen : r.length ≤ 10000) (hD : H D = none)
    (q : ∀ H', Same H H' → H' D = some (.lst ((r.map fun n => n - 1).map V.int)) → Q (.ref D) H') :
    CompW (Itl K a) (gName 0) (fun _ H Q => Q true H) (tOp (rI0 fun i j => .int (i - j)) (tVar 0) (tC (.int 1))) Q D [none] H := by
  have hl : (r.map V.int).length = r.length := List.length_map _
  have hs : sizeLine = 16777216 := sizeLine_eq
  refine comp_list (K := K) (a := a) (xs := r.map V.int) (fun i ys σ H2 => ∃ u : Option V, σ = [u] ∧ Same H H2 ∧ H2 D = some (.lst ys) ∧ ys = ((r.take i).map fun n => n - 1).map V.int)
    ⟨none, rfl, same_new hD _, upd_same, rfl⟩ (fun i ys σ H2 _ ⟨_, _, s2, _⟩ => s2.seq hS) ?_ ?_
  · rintro i x ys σ H2 hi ⟨u, rfl, s2, hD2, rfl⟩
    have hil : i < (r.map V.int).length := (List.getElem?_eq_some_iff.mp hi).1
    rw [hl] at hil
    obtain rfl : x = V.int (r.getD i 0) := by
      rw [List.getElem?_map, getD_of hil] at hi
      exact (Option.some.inj hi).symm
    refine ⟨_, rfl, _, _, rfl, rfl, hD2, ?_, _, rfl, same_upd s2 hD, upd_same, ?_⟩
    · rw [List.length_map, List.length_map, List.length_take]
      omega
    · rw [List.take_succ_eq_append_getElem hil, List.map_append, List.map_append, getD_elem hil]
      rfl
  · rintro ys σ H2 ⟨u, rfl, s2, hD2, rfl⟩
    refine q H2 s2 ?_
    rw [hl, List.take_length] at hD2
    exact hD2
def spWR (K : PySem.W.Frag) : Sp := fun vs H Q _ => ∃ (a : Addr) (r : List Int) (k j : Int), vs = [.ref a, .int k, .int j] ∧ SqL K H a (r.map V.int) ∧ r.length ≤ 500 ∧
  ∀ (t p : Addr) (H' : Hp), Same H H' → H p = none → H' p = some (.lst ((wrM r k j).1.map V.int)) → H' t = some (.tup [.ref p, .int (wrM r k j).2]) → Q (.ref t) H'
def spLesserX (K : PySem.W.Frag) (C : Addr) : Sp := fun vs H Q E => ∃ (a : Addr) (r : List Int) (t : Int), vs = [.ref a, .int t] ∧ SqL K H a (r.map V.int) ∧ IsRow r ∧ r.sum ≤ 100 ∧ (BadRods t → E (.ref C) none H) ∧
  (1 ≤ t → t ≤ 8 → ∀ (p : Addr) (ts qs : List Addr) (H' : Hp), Same H H' → H p = none → TL H H' p ts qs (lesserM r t) → Q (.ref p) H')
def spLesser (K : PySem.W.Frag) : Sp := fun vs H Q E => ∃ (a : Addr) (r : List Int) (t : Int), vs = [.ref a, .int t] ∧ SqL K H a (r.map V.int) ∧ IsRow r ∧ r.sum ≤ 100 ∧ 1 ≤ t ∧ t ≤ 8 ∧
  ∀ (p : Addr) (ts qs : List Addr) (H' : Hp), Same H H' → H p = none → TL H H' p ts qs (lesserM r t) → Q (.ref p) H'
theorem row_sizes {r : List Int} (h : IsRow r) (hs : r.sum ≤ 100) : r.length ≤ 100 ∧ 0 ≤ r.headD 0 ∧ r.headD 0 ≤ 100 := by
  have a := row_len h
  have b := row_head h
  omega

theorem gaps_at {r : List Int} {m k : Nat} (hm : r.length ≤ m) (hk : k < m) : (gapsM r m).getD k 0 = if m - 1 - k < r.length then r.getD (m - 1 - k) 0 else 0 := by
  unfold gapsM
  by_cases z : k < m - r.length
  · rw [getD_appL (by rw [List.length_replicate]; exact z), rep_at, if_neg (by omega)]
  · rw [getD_appR (by rw [List.length_replicate]; omega), List.length_replicate, if_pos (by omega)]
    rw [List.getD_eq_getElem?_getD, List.getElem?_reverse (by omega), ← List.getD_eq_getElem?_getD]
    congr 1
    omega

theorem hOn_shiftL {l : List Int} {t e : Int} (ht : 1 ≤ t) (he : 0 ≤ e) (u : Up l) (h0 : ∀ x ∈ l, 0 ≤ x) {k : Nat} (hk : (k : Int) < t) : hOn (shiftI (e * t).toNat l) t (0 + (k : Int)) = shiftI e.toNat (hOn l t (0 + (k : Int))) := by
  have hd : 0 ≤ e * t := Int.mul_nonneg he (by omega)
  have e1 : (((e * t).toNat : Nat) : Int) = e * t := by omega
  have e2 : ((e.toNat : Nat) : Int) = e := by omega
  refine up_eq (hOn_up ht (shift_up u h0)) (shift_up (hOn_up ht u) (hOn_pos ht h0)) fun y => ?_
  rw [mem_hOn ht (by omega) (by omega), mem_shift, mem_shift, mem_hOn ht (by omega) (by omega), e1, e2, Int.zero_add]
  have e3 : (y - e) * t + (k : Int) = y * t + (k : Int) - e * t := by grind
  rw [e3]
  constructor
  · rintro (⟨a, b⟩ | a)
    · left
      constructor
      · by_cases z : 0 ≤ y
        · exact z
        · have := Int.mul_le_mul_of_nonneg_right (show y ≤ -1 by omega) (show 0 ≤ t by omega)
          omega
      · exact Int.lt_of_mul_lt_mul_right (a := t) (by omega) (by omega)
    · exact .inr a
  · rintro (⟨a, b⟩ | a)
    · left
      have h4 := Int.mul_le_mul_of_nonneg_right (show y ≤ e - 1 by omega) (show 0 ≤ t by omega)
      have h5 : (e - 1) * t = e * t - t := by grind
      have h6 := Int.mul_nonneg a (show 0 ≤ t by omega)
      omega
    · exact .inr a

theorem dCount_zero {S : List Int} {d : Int} (h1 : 1 ≤ d) : dCount S d = 0 ↔ ∀ x ∈ S, d ≤ x → x - d ∈ S := by
  unfold dCount
  rw [List.length_eq_zero_iff, List.filter_eq_nil_iff]
  constructor
  · intro h x hx hd
    by_cases z : x - d ∈ S
    · exact z
    · exact absurd (decide_eq_true ⟨h1, hd, z⟩) (h x hx)
  · intro h x hx z
    have := of_decide_eq_true z
    exact this.2.2 (h x hx this.2.1)
theorem hooks_count {r : List Int} (hr : IsRow r) (d : Int) : (hooksM r).flatten.count d = dCount (beadsM r r.length) d := by
  have hb := beads_rise (r := r) (m := r.length) (fun x hx => by have := isRow_pos hr x hx; omega) (isRow_pair hr) (Nat.le_refl _)
  have h := row_hooks (S := beadsM r r.length) (rise_up hb) (fun x hx => by
    obtain ⟨i, hi, e⟩ := List.getElem_of_mem hx
    rw [← e, getD_elem hi]
    exact rise_pos hb i hi) d
  rw [rowOf_beads (isRow_pos hr) (Nat.le_refl _)] at h
  exact h
theorem core_iff2 {r : List Int} {t : Int} (hr : IsRow r) (h1 : 1 ≤ t) : coreM r t = r ↔ t ∉ (hooksM r).flatten := by
  rw [core_iff hr h1]
  unfold leftM
  rw [List.filter_eq_nil_iff]
  constructor
  · intro h z
    exact h t z (decide_eq_true (Int.emod_self))
  · intro h x hx hd
    have hd := of_decide_eq_true hd
    have hb := (hook_bounds hr hx).1
    rw [← List.count_eq_zero, hooks_count hr, dCount_zero h1] at h
    have hc : (hooksM r).flatten.count x ≠ 0 := fun z => (List.count_eq_zero.mp z) hx
    rw [hooks_count hr] at hc
    apply hc
    rw [dCount_zero hb]
    obtain ⟨e, rfl⟩ := Int.dvd_of_emod_eq_zero hd
    have he : 0 ≤ e := by
      by_cases z : 0 ≤ e
      · exact z
      · have := Int.mul_le_mul_of_nonneg_left (show e ≤ -1 by omega) (show 0 ≤ t by omega)
        omega
    obtain ⟨n, rfl⟩ := Int.eq_ofNat_of_zero_le he
    have key : ∀ n : Nat, ∀ x ∈ beadsM r r.length, t * (n : Int) ≤ x → x - t * (n : Int) ∈ beadsM r r.length := fun n => by
      induction n with
      | zero => intro x hx _; have e : x - t * ((0 : Nat) : Int) = x := by rw [Int.ofNat_zero, Int.mul_zero]; omega
                rw [e]; exact hx
      | succ n ih =>
        intro x hx hle
        have e : t * ((n + 1 : Nat) : Int) = t * (n : Int) + t := by grind
        rw [e] at hle ⊢
        have a := h _ (ih x hx (by omega)) (by omega)
        have e2 : x - (t * (n : Int) + t) = x - t * (n : Int) - t := by omega
        rw [e2]
        exact a
    exact key n

theorem getD_ge {r : List Int} {l : Nat} (h : r.length ≤ l) : r.getD l 0 = 0 := by
  rw [List.getD_eq_getElem?_getD, List.getElem?_eq_none h]; rfl
theorem row_all {r : List Int} (h : IsRow r) (l : Nat) : 0 ≤ r.getD l 0 ∧ r.getD (l + 1) 0 ≤ r.getD l 0 := by
  have h0 : ∀ l : Nat, 0 ≤ r.getD l 0 := fun l => by
    by_cases z : l < r.length
    · have := h.1 l z; omega
    · rw [getD_ge (by omega)]; exact Int.le_refl _
  refine ⟨h0 l, ?_⟩
  by_cases z : l + 1 < r.length
  · exact h.2 l z
  · rw [getD_ge (l := l + 1) (by omega)]; exact h0 l
def dAt (r : List Int) (m l : Nat) : Int := r.getD l 0 + ((m : Int) - 1 - (l : Int))
theorem beads_rev {r : List Int} {m : Nat} (hm : r.length ≤ m) : (beadsM r m).reverse = (List.range m).map (dAt r m) := by
  refine List.ext_getElem (by rw [List.length_reverse, beads_len, List.length_map, List.length_range]) fun i h1 h2 => ?_
  rw [List.length_reverse, beads_len] at h1
  rw [List.getElem_reverse, List.getElem_map, List.getElem_range, getD_elem, beads_len, beads_at (by omega), gaps_at hm (by omega)]
  unfold dAt
  rw [show m - 1 - (m - 1 - i) = i by omega]
  by_cases z : i < r.length
  · rw [if_pos z]; omega
  · rw [if_neg z, getD_ge (by omega)]; omega
theorem mem_beads {r : List Int} {m : Nat} (hm : r.length ≤ m) {y : Int} : y ∈ beadsM r m ↔ ∃ l : Nat, l < m ∧ y = dAt r m l := by
  rw [← List.mem_reverse, beads_rev hm, List.mem_map]
  constructor
  · rintro ⟨l, hl, e⟩; exact ⟨l, List.mem_range.mp hl, e.symm⟩
  · rintro ⟨l, hl, e⟩; exact ⟨l, List.mem_range.mpr hl, e.symm⟩
theorem dAt_lt {r : List Int} (h : IsRow r) (m : Nat) {l : Nat} : ∀ d : Nat, dAt r m (l + d + 1) < dAt r m l
  | 0 => by have := (row_all h l).2; unfold dAt; show r.getD (l + 1) 0 + _ < _; omega
  | d + 1 => by
    have a := dAt_lt h m (l := l) d
    have b := (row_all h (l + d + 1)).2
    unfold dAt at a ⊢
    show r.getD (l + d + 1 + 1) 0 + _ < _
    omega
theorem dAt_gt {r : List Int} (h : IsRow r) (m : Nat) {a b : Nat} (hab : a < b) : dAt r m b < dAt r m a := by
  have := dAt_lt h m (l := a) (b - a - 1)
  rw [show a + (b - a - 1) + 1 = b by omega] at this
  exact this
theorem filt_getD : ∀ {N : List Int}, (∀ x ∈ N, 0 ≤ x) → N.Pairwise (fun a b => b ≤ a) → ∀ l : Nat, (N.filter fun n => decide (0 < n)).getD l 0 = N.getD l 0
  | [], _, _, _ => rfl
  | a :: N, h0, hp, l => by
    have hp' := List.pairwise_cons.mp hp
    have ha := h0 a (List.mem_cons_self ..)
    by_cases z : 0 < a
    · rw [List.filter_cons, if_pos (decide_eq_true z)]
      cases l with
      | zero => rfl
      | succ l =>
        show (N.filter _).getD l 0 = N.getD l 0
        exact filt_getD (fun x hx => h0 x (List.mem_cons_of_mem _ hx)) hp'.2 l
    · have e : (a :: N).filter (fun n => decide (0 < n)) = [] := List.filter_eq_nil_iff.mpr fun y hy => by
        rcases List.mem_cons.mp hy with e | e
        · rw [e]; simpa using z
        · have := hp'.1 y e
          simp; omega
      rw [e]
      have : ∀ y ∈ a :: N, y = 0 := fun y hy => by
        have := h0 y hy
        rcases List.mem_cons.mp hy with e | e
        · omega
        · have := hp'.1 y e; omega
      by_cases q : l < (a :: N).length
      · rw [← getD_elem q, this _ (List.getElem_mem q)]; rfl
      · rw [getD_ge (r := a :: N) (by omega)]; rfl
def mvM (r : List Int) (k L : Nat) (j : Int) : List Int := r.take k ++ ((r.drop (k + 1)).take (L - (k + 1))).map (fun n => n - 1) ++ [j] ++ r.drop L
theorem mv_len {r : List Int} {k L : Nat} {j : Int} (hk : k < L) (hL : L ≤ r.length) : (mvM r k L j).length = r.length := by
  unfold mvM
  simp only [List.length_append, List.length_map, List.length_take, List.length_drop, List.length_singleton]
  omega
theorem mv_at {r : List Int} {k L : Nat} {j : Int} (hk : k < L) (hL : L ≤ r.length) (l : Nat) : (mvM r k L j).getD l 0 = if l < k then r.getD l 0 else if l + 1 < L then r.getD (l + 1) 0 - 1 else if l + 1 = L then j else r.getD l 0 := by
  unfold mvM
  have hA : (r.take k).length = k := by rw [List.length_take]; omega
  have hB : (((r.drop (k + 1)).take (L - (k + 1))).map (fun n => n - 1)).length = L - (k + 1) := by
    rw [List.length_map, List.length_take, List.length_drop]; omega
  by_cases z1 : l < k
  · rw [if_pos z1, getD_appL (by simp only [List.length_append, hA, hB, List.length_singleton]; omega), getD_appL (by simp only [List.length_append, hA, hB]; omega), getD_appL (by omega), getD_take z1]
  rw [if_neg z1]
  by_cases z2 : l + 1 < L
  · rw [if_pos z2, getD_appL (by simp only [List.length_append, hA, hB, List.length_singleton]; omega), getD_appL (by simp only [List.length_append, hA, hB]; omega), getD_appR (by omega), hA]
    have hl : l - k < ((r.drop (k + 1)).take (L - (k + 1))).length := by rw [List.length_take, List.length_drop]; omega
    rw [List.getD_eq_getElem?_getD, List.getElem?_map, List.getElem?_eq_getElem hl]
    show ((r.drop (k + 1)).take (L - (k + 1)))[l - k] - 1 = _
    rw [List.getElem_take, List.getElem_drop, getD_elem, show k + 1 + (l - k) = l + 1 by omega]
  rw [if_neg z2]
  by_cases z3 : l + 1 = L
  · rw [if_pos z3, getD_appL (by simp only [List.length_append, hA, hB, List.length_singleton]; omega), getD_appR (by simp only [List.length_append, hA, hB]; omega)]
    simp only [List.length_append, hA, hB]
    rw [show l - (k + (L - (k + 1))) = 0 by omega]
    rfl
  rw [if_neg z3, getD_appR (by simp only [List.length_append, hA, hB, List.length_singleton]; omega)]
  simp only [List.length_append, hA, hB, List.length_singleton]
  rw [List.getD_eq_getElem?_getD, List.getElem?_drop, ← List.getD_eq_getElem?_getD, show L + (l - (k + (L - (k + 1)) + 1)) = l by omega]
structure Cut (r : List Int) (k L : Nat) (j : Int) : Prop where
  row : IsRow r
  j0 : 0 ≤ j
  hk : k < L
  hL : L ≤ r.length
  lo : ∀ l : Nat, l < L → j < r.getD l 0
  hi : r.getD L 0 ≤ j
theorem mv_fall {r : List Int} {k L : Nat} {j : Int} (C : Cut r k L j) (l : Nat) : 0 ≤ (mvM r k L j).getD l 0 ∧ (mvM r k L j).getD (l + 1) 0 ≤ (mvM r k L j).getD l 0 := by
  obtain ⟨row, j0, hk, hL, lo, hi⟩ := C
  have a := row_all row l
  have b := row_all row (l + 1)
  rw [mv_at hk hL, mv_at hk hL]
  have c1 : l + 1 < L → j < r.getD (l + 1) 0 := lo (l + 1)
  have c2 : l + 1 + 1 < L → j < r.getD (l + 1 + 1) 0 := lo (l + 1 + 1)
  have c3 : l < L → j < r.getD l 0 := lo l
  have c4 : l + 1 = L → r.getD (l + 1) 0 ≤ j := fun e => by rw [e]; exact hi
  have c5 : l + 1 = L → r.getD L 0 ≤ j := fun _ => hi
  by_cases z1 : l < k
  · rw [if_pos z1]
    by_cases y1 : l + 1 < k
    · rw [if_pos y1]; exact a
    · rw [if_neg y1]
      by_cases y2 : l + 1 + 1 < L
      · rw [if_pos y2]; omega
      · rw [if_neg y2, if_pos (by omega)]
        have := c3 (by omega)
        omega
  · rw [if_neg z1, if_neg (show ¬ l + 1 < k by omega)]
    by_cases z2 : l + 1 < L
    · rw [if_pos z2]
      have := c1 z2
      by_cases y2 : l + 1 + 1 < L
      · rw [if_pos y2]; omega
      · rw [if_neg y2, if_pos (by omega)]; omega
    · rw [if_neg z2, if_neg (show ¬ l + 1 + 1 < L by omega), if_neg (show ¬ l + 1 + 1 = L by omega)]
      by_cases z3 : l + 1 = L
      · rw [if_pos z3]; exact ⟨j0, c4 z3⟩
      · rw [if_neg z3]; exact a
def cutR (r : List Int) (k L : Nat) (j : Int) : List Int := (mvM r k L j).filter fun n => decide (0 < n)
theorem mv_pair {r : List Int} {k L : Nat} {j : Int} (C : Cut r k L j) : (∀ x ∈ mvM r k L j, 0 ≤ x) ∧ (mvM r k L j).Pairwise (fun a b => b ≤ a) := by
  refine ⟨fun x hx => ?_, fall_pair.mp fun l _ => (mv_fall C l).2⟩
  obtain ⟨i, hi, e⟩ := List.getElem_of_mem hx
  rw [← e, getD_elem hi]
  exact (mv_fall C i).1
theorem cut_row {r : List Int} {k L : Nat} {j : Int} (C : Cut r k L j) : IsRow (cutR r k L j) := by
  refine isRow_iff.mpr ⟨fun x hx => ?_, (mv_pair C).2.filter _⟩
  have := of_decide_eq_true (List.mem_filter.mp hx).2
  omega
theorem cut_len {r : List Int} {k L : Nat} {j : Int} (C : Cut r k L j) : (cutR r k L j).length ≤ r.length := by
  have := List.length_filter_le (fun n : Int => decide (0 < n)) (mvM r k L j)
  rw [mv_len C.hk C.hL] at this
  exact this
theorem cut_at {r : List Int} {k L : Nat} {j : Int} (C : Cut r k L j) (m l : Nat) : dAt (cutR r k L j) m l = if l < k then dAt r m l else if l + 1 < L then dAt r m (l + 1) else if l + 1 = L then j + (m : Int) - (L : Int) else dAt r m l := by
  unfold dAt cutR
  rw [filt_getD (mv_pair C).1 (mv_pair C).2, mv_at C.hk C.hL]
  by_cases z1 : l < k
  · rw [if_pos z1, if_pos z1]
  rw [if_neg z1, if_neg z1]
  by_cases z2 : l + 1 < L
  · rw [if_pos z2, if_pos z2]; omega
  rw [if_neg z2, if_neg z2]
  by_cases z3 : l + 1 = L
  · rw [if_pos z3, if_pos z3]; omega
  rw [if_neg z3, if_neg z3]
theorem cut_free {r : List Int} {k L : Nat} {j : Int} (C : Cut r k L j) (m : Nat) {l : Nat} : (l < L → j + (m : Int) - (L : Int) < dAt r m l) ∧ (L ≤ l → dAt r m l < j + (m : Int) - (L : Int)) := by
  constructor
  · intro h
    have := C.lo l h
    unfold dAt; omega
  · intro h
    have h0 : r.getD l 0 ≤ j := by
      have : ∀ d : Nat, r.getD (L + d) 0 ≤ j := fun d => by
        induction d with
        | zero => exact C.hi
        | succ d ih => have := (row_all C.row (L + d)).2; rw [← Nat.add_assoc]; omega
      have := this (l - L)
      rw [show L + (l - L) = l by omega] at this
      exact this
    unfold dAt; omega
theorem cut_mem {r : List Int} {k L : Nat} {j : Int} (C : Cut r k L j) {m : Nat} (hm : r.length ≤ m) (y : Int) : y ∈ beadsM (cutR r k L j) m ↔ (y ∈ beadsM r m ∧ y ≠ dAt r m k) ∨ y = j + (m : Int) - (L : Int) := by
  have hl := cut_len C
  have hL := C.hL
  have hk := C.hk
  rw [mem_beads (by omega), mem_beads hm]
  constructor
  · rintro ⟨l, hl, rfl⟩
    rw [cut_at C]
    by_cases z1 : l < k
    · rw [if_pos z1]
      exact .inl ⟨⟨l, hl, rfl⟩, Int.ne_of_gt (dAt_gt C.row m z1)⟩
    rw [if_neg z1]
    by_cases z2 : l + 1 < L
    · rw [if_pos z2]
      exact .inl ⟨⟨l + 1, by omega, rfl⟩, Int.ne_of_lt (dAt_gt C.row m (by omega))⟩
    rw [if_neg z2]
    by_cases z3 : l + 1 = L
    · rw [if_pos z3]; exact .inr rfl
    rw [if_neg z3]
    exact .inl ⟨⟨l, hl, rfl⟩, Int.ne_of_lt (dAt_gt C.row m (by omega))⟩
  · rintro (⟨⟨l, hl, rfl⟩, hne⟩ | rfl)
    · have hlk : l ≠ k := fun e => hne (by rw [e])
      by_cases z1 : l < k
      · exact ⟨l, hl, by rw [cut_at C, if_pos z1]⟩
      by_cases z2 : l < L
      · refine ⟨l - 1, by omega, ?_⟩
        rw [cut_at C, if_neg (by omega), if_pos (by omega), show l - 1 + 1 = l by omega]
      · exact ⟨l, hl, by rw [cut_at C, if_neg z1, if_neg (by omega), if_neg (by omega)]⟩
    · refine ⟨L - 1, by omega, ?_⟩
      rw [cut_at C, if_neg (by omega), if_neg (by omega), if_pos (by omega)]
theorem cnt_mid (k L : Nat) : ∀ w : Nat, ((List.range w).filter fun l => decide (k < l ∧ l < L)).length = min w L - (k + 1)
  | 0 => by simp
  | w + 1 => by
    rw [List.range_succ, List.filter_append, List.length_append, cnt_mid k L w]
    by_cases z : k < w ∧ w < L
    · rw [List.filter_cons, if_pos (decide_eq_true z)]
      show _ + 1 = _
      omega
    · rw [List.filter_cons, if_neg (by simpa using z)]
      show _ + 0 = _
      omega
theorem cut_legs {r : List Int} {k L : Nat} {j : Int} (C : Cut r k L j) {m : Nat} (hm : r.length ≤ m) : ((beadsM r m).filter fun y => decide (j + (m : Int) - (L : Int) < y ∧ y < dAt r m k)).length = L - (k + 1) := by
  have hL := C.hL
  rw [← List.length_reverse, ← List.filter_reverse, beads_rev hm, List.filter_map, List.length_map]
  have e : (List.range m).filter ((fun y => decide (j + (m : Int) - (L : Int) < y ∧ y < dAt r m k)) ∘ dAt r m) = (List.range m).filter fun l => decide (k < l ∧ l < L) := by
    refine List.filter_congr fun l _ => ?_
    refine decide_eq_decide.mpr ?_
    have a := cut_free C m (l := l)
    constructor
    · rintro ⟨h1, h2⟩
      refine ⟨?_, ?_⟩
      · by_cases z : k < l
        · exact z
        · by_cases e : l = k
          · rw [e] at h2; omega
          · have := dAt_gt C.row m (show l < k by omega); omega
      · by_cases z : l < L
        · exact z
        · have := a.2 (by omega); omega
    · rintro ⟨h1, h2⟩
      exact ⟨a.1 h2, dAt_gt C.row m h1⟩
  rw [e, cnt_mid]
  omega
theorem sub_rod (x t : Int) : (x - t) % t = x % t := by
  have := Int.add_mul_emod_self_right x (-1) t
  rw [show x + -1 * t = x - t by omega] at this
  exact this
theorem up_perm {S T : List Int} {x f : Int} (hS : Up S) (hT : Up T) (hx : x ∈ S) (hf : f ∉ S) (h : ∀ y, y ∈ T ↔ (y ∈ S ∧ y ≠ x) ∨ y = f) : S.Perm (x :: S.filter fun y => decide (y ≠ x)) ∧ T.Perm (f :: S.filter fun y => decide (y ≠ x)) := by
  have nS := up_nodup hS
  have nT := up_nodup hT
  have nC : (S.filter fun y => decide (y ≠ x)).Nodup := nS.filter _
  have mC : ∀ y, y ∈ S.filter (fun y => decide (y ≠ x)) ↔ y ∈ S ∧ y ≠ x := fun y => by rw [List.mem_filter, decide_eq_true_eq]
  constructor
  · refine (List.perm_ext_iff_of_nodup nS (List.nodup_cons.mpr ⟨fun z => ((mC x).mp z).2 rfl, nC⟩)).mpr fun y => ?_
    rw [List.mem_cons, mC]
    constructor
    · intro hy
      by_cases z : y = x
      · exact .inl z
      · exact .inr ⟨hy, z⟩
    · rintro (e | e)
      · rw [e]; exact hx
      · exact e.1
  · refine (List.perm_ext_iff_of_nodup nT (List.nodup_cons.mpr ⟨fun z => hf ((mC f).mp z).1, nC⟩)).mpr fun y => ?_
    rw [List.mem_cons, mC, h y]
    exact Or.comm
theorem charges_any {r : List Int} {t s : Int} (ht : 1 ≤ t) (hs : shareM r t ≤ s) {k : Nat} (h : k < t.toNat) : ((hOn (beadsM r (s * t).toNat) t (0 + (k : Int))).length : Int) = s + (chargesM r t).getD k 0 := by
  have b := share_mul r ht
  have hd : (s * t).toNat - (shareM r t * t).toNat = ((s - shareM r t) * t).toNat := by
    have e : (s - shareM r t) * t = s * t - shareM r t * t := by grind
    rw [e]; omega
  have hm : (shareM r t * t).toNat ≤ (s * t).toNat := by
    have := Int.mul_le_mul_of_nonneg_right hs (show 0 ≤ t by omega)
    omega
  rw [charges_at h, beads_shift (r := r) (m := (shareM r t * t).toNat) (n := (s * t).toNat) (by omega) hm, hd, hOn_shift ht (by omega) (by omega)]
  omega
theorem share_mono {r r' : List Int} {t : Int} (ht : 1 ≤ t) (h : r'.length ≤ r.length) : shareM r' t ≤ shareM r t := by
  unfold shareM
  exact Int.ediv_le_ediv (by omega) (by omega)
structure Mv (S S1 : List Int) (x t : Int) (legs : Nat) : Prop where
  mem : x ∈ S
  out : x - t ∉ S
  pos : 0 ≤ x - t
  all : ∀ y, y ∈ S1 ↔ (y ∈ S ∧ y ≠ x) ∨ y = x - t
  cnt : (S.filter fun y => decide (x - t < y ∧ y < x)).length = legs
structure Rim (r r' : List Int) (t : Int) (legs : Nat) : Prop where
  row : IsRow r'
  len : r'.length ≤ r.length
  sum : r'.sum = r.sum - t
  core : coreM r' t = coreM r t
  mv : ∀ m : Nat, r.length ≤ m → ∃ x : Int, Mv (beadsM r m) (beadsM r' m) x t legs
theorem rim_cut {r : List Int} {k L : Nat} {j t : Int} (C : Cut r k L j) (ht : t = r.getD k 0 - j + ((L - (k + 1) : Nat) : Int)) : Rim r (cutR r k L j) t (L - (k + 1)) := by
  have hrow := C.row
  have crow := cut_row C
  have clen := cut_len C
  have hk := C.hk
  have hL := C.hL
  have hlo := C.lo k hk
  have hj0 := C.j0
  have h1 : 1 ≤ t := by omega
  have hfx : ∀ m : Nat, j + (m : Int) - (L : Int) = dAt r m k - t := fun m => by unfold dAt; omega
  have W : ∀ m : Nat, r.length ≤ m → Mv (beadsM r m) (beadsM (cutR r k L j) m) (dAt r m k) t (L - (k + 1)) := fun m hm => by
    refine ⟨(mem_beads hm).mpr ⟨k, by omega, rfl⟩, fun z => ?_, by rw [← hfx]; omega, fun y => by rw [cut_mem C hm, hfx], by rw [← hfx]; exact cut_legs C hm⟩
    obtain ⟨l, hl, e⟩ := (mem_beads hm).mp z
    rw [← hfx] at e
    have := cut_free C m (l := l)
    by_cases q : l < L
    · have := this.1 q; omega
    · have := this.2 (by omega); omega
  have P : ∀ m : Nat, r.length ≤ m → (beadsM r m).Perm (dAt r m k :: (beadsM r m).filter fun y => decide (y ≠ dAt r m k)) ∧ (beadsM (cutR r k L j) m).Perm ((dAt r m k - t) :: (beadsM r m).filter fun y => decide (y ≠ dAt r m k)) := fun m hm =>
    up_perm (beads_up hrow hm).1 (beads_up crow (by omega : (cutR r k L j).length ≤ m)).1 (W m hm).mem (W m hm).out (W m hm).all
  refine ⟨crow, clen, ?_, ?_, fun m hm => ⟨_, W m hm⟩⟩
  · obtain ⟨p1, p2⟩ := P r.length (Nat.le_refl _)
    have e1 := perm_sum p1
    have e2 := perm_sum p2
    rw [List.sum_cons] at e1 e2
    have r1 : Rise (beadsM r r.length) := by have := beads_up (m := r.length) hrow (Nat.le_refl _); exact up_rise this.1 this.2
    have r2 : Rise (beadsM (cutR r k L j) r.length) := by have := beads_up (m := r.length) crow clen; exact up_rise this.1 this.2
    have s1 := rowOf_sum r1
    have s2 := rowOf_sum r2
    rw [rowOf_beads (isRow_pos hrow) (Nat.le_refl _), beads_len] at s1
    rw [rowOf_beads (isRow_pos crow) clen, beads_len] at s2
    omega
  · unfold coreM
    have e : chargesM (cutR r k L j) t = chargesM r t := by
      have hb := share_mul r h1
      obtain ⟨p1, p2⟩ := P (shareM r t * t).toNat (by omega)
      refine List.ext_getElem (by rw [charges_len, charges_len]) fun i a b => ?_
      rw [charges_len] at a
      have c1 := charges_any (r := r) h1 (Int.le_refl _) a
      have c2 := charges_any (r := cutR r k L j) h1 (share_mono h1 clen) a
      rw [getD_elem, getD_elem]
      have q1 := (p1.filter fun p => decide (p % t = 0 + (i : Int))).length_eq
      have q2 := (p2.filter fun p => decide (p % t = 0 + (i : Int))).length_eq
      rw [hOn_length] at c1 c2
      rw [List.filter_cons] at q1 q2
      rw [sub_rod] at q2
      rw [q1] at c1
      rw [q2] at c2
      split at c1 <;> split at c2 <;> simp_all <;> omega
    rw [e]

theorem cutI_pre {r : List Int} {k : Nat} (h : k ≤ r.length) : cutI r none (some (k : Int)) = r.take k := by
  unfold cutI
  rw [HT.sIx_none, HT.sIx_nat, List.drop_zero, Nat.sub_zero, Nat.min_eq_left h]
theorem cutI_mid {r : List Int} {a b : Nat} (ha : a ≤ r.length) (hb : b ≤ r.length) : cutI r (some (a : Int)) (some (b : Int)) = (r.drop a).take (b - a) := by
  unfold cutI
  rw [HT.sIx_nat, HT.sIx_nat, Nat.min_eq_left ha, Nat.min_eq_left hb]
theorem cutI_suf {r : List Int} {a : Nat} (ha : a ≤ r.length) : cutI r (some (a : Int)) none = r.drop a := by
  unfold cutI
  rw [HT.sIx_none, HT.sIx_nat, Nat.min_eq_left ha, List.take_of_length_le (by rw [List.length_drop]; omega)]
theorem rim_of {r : List Int} {t : Int} (hr : IsRow r) {p : List Int × Int} (hp : p ∈ lesserM r t) : ∃ legs : Nat, p.2 = (legs : Int) ∧ legs ≤ r.length ∧ Rim r p.1 t legs := by
  obtain ⟨k, hk, hg⟩ := List.mem_flatMap.mp (List.mem_reverse.mp hp)
  have hk' := List.mem_range.mp hk
  unfold gL at hg
  split at hg
  next c =>
    have e := List.mem_singleton.mp hg
    have hjl := idx_lt c
    have hja := idx_at c
    obtain ⟨j, hj⟩ : ∃ j : Nat, j = idxI (hookLine r k) t := ⟨_, rfl⟩
    rw [← hj] at e hjl hja
    unfold hookLine at hjl hja
    rw [List.length_map, List.length_range] at hjl
    rw [List.getD_eq_getElem?_getD, List.getElem?_map, List.getElem?_range hjl] at hja
    have hja' : r.getD k 0 - (j : Int) + (linesAt (r.drop (k + 1)) (j : Int) : Int) = t := hja
    have hpw := isRow_pair hr
    have h2 := hook_two hpw hk' (j := (j : Int)) (by omega)
    have hc := cnt_gt hpw (j : Int)
    obtain ⟨L, hL⟩ : ∃ L : Nat, L = linesAt r (j : Int) := ⟨_, rfl⟩
    rw [← hL] at h2 hc
    have hLl : L ≤ r.length := by rw [hL]; exact linesAt_le r _
    have C : Cut r k L (j : Int) := ⟨hr, by omega, by omega, hLl, fun l hl => ((hc l).mp hl).2, by
      by_cases z : L < r.length
      · have : ¬ ((j : Int) < r.getD L 0) := fun q => Nat.lt_irrefl L ((hc L).mpr ⟨z, q⟩)
        omega
      · rw [getD_ge (by omega)]; omega⟩
    have ew : wrM r (k : Int) (j : Int) = (cutR r k L (j : Int), ((L - (k + 1) : Nat) : Int)) := by
      unfold wrM cutR mvM
      rw [← hL, show ((L : Int) - 1 + 1) = (L : Int) by omega, show ((k : Int) + 1) = ((k + 1 : Nat) : Int) by omega, cutI_pre (by omega), cutI_mid (by omega) hLl, cutI_suf hLl]
      congr 1
      omega
    rw [ew] at e
    refine ⟨L - (k + 1), by rw [e], by omega, ?_⟩
    rw [e]
    exact rim_cut C (by omega)
  next => exact absurd hg (by simp)
theorem lesser_nil {r : List Int} {t : Int} (hr : IsRow r) (h1 : 1 ≤ t) (h : lesserM r t = []) : coreM r t = r := by
  refine (core_iff2 hr h1).mpr fun z => ?_
  obtain ⟨l, hl, ht⟩ := List.mem_flatten.mp z
  obtain ⟨k, hk, rfl⟩ := List.mem_map.mp hl
  have : wrM r (k : Int) (idxI (hookLine r k) t : Int) ∈ lesserM r t := List.mem_reverse.mpr (List.mem_flatMap.mpr ⟨k, hk, by unfold gL; rw [if_pos ht]; exact List.mem_cons_self ..⟩)
  rw [h] at this
  cases this
theorem head_getD (r : List Int) : r.headD 0 = r.getD 0 0 := by cases r <;> rfl
theorem turned_getD {r : List Int} (hr : IsRow r) (j : Nat) : (turnedM r).getD j 0 = (linesAt r (j : Nat) : Int) := by
  by_cases z : j < (r.headD 0).toNat
  · exact turned_at z
  · rw [getD_ge (by rw [turned_len]; omega)]
    have : linesAt r (j : Nat) = 0 := linesAt_none fun x hx => by
      obtain ⟨i, hi, e⟩ := List.getElem_of_mem hx
      have := row_le_head hr hi
      rw [← getD_elem hi, e] at this
      omega
    rw [this]; rfl
theorem lines_iff {r : List Int} (hr : IsRow r) (j : Nat) (k : Nat) : k < linesAt r (j : Int) ↔ (j : Int) < r.getD k 0 := by
  rw [cnt_gt (isRow_pair hr)]
  constructor
  · exact fun h => h.2
  · intro h
    refine ⟨?_, h⟩
    by_cases z : k < r.length
    · exact z
    · rw [getD_ge (by omega)] at h; omega
theorem lines_is {r : List Int} (hr : IsRow r) {j L : Nat} (h1 : ∀ l : Nat, l < L → (j : Int) < r.getD l 0) (h2 : r.getD L 0 ≤ (j : Int)) : linesAt r (j : Int) = L := by
  rcases Nat.lt_trichotomy (linesAt r (j : Int)) L with z | z | z
  · have := (lines_iff hr j _).mpr (h1 _ z); omega
  · exact z
  · have := (lines_iff hr j L).mp z; omega
theorem row_mono {r : List Int} (hr : IsRow r) {a b : Nat} (h : a ≤ b) : r.getD b 0 ≤ r.getD a 0 := by
  have : ∀ d : Nat, r.getD (a + d) 0 ≤ r.getD a 0 := fun d => by
    induction d with
    | zero => exact Int.le_refl _
    | succ d ih => have := (row_all hr (a + d)).2; rw [← Nat.add_assoc]; omega
  have := this (b - a)
  rw [show a + (b - a) = b by omega] at this
  exact this
theorem turn_mem {r : List Int} (hr : IsRow r) {m n : Nat} (hm : r.length ≤ m) (hn : r.headD 0 ≤ (n : Int)) (y : Int) : y ∈ beadsM (turnedM r) n ↔ 0 ≤ y ∧ y < (m : Int) + (n : Int) ∧ (m : Int) + (n : Int) - 1 - y ∉ beadsM r m := by
  have hl : (turnedM r).length ≤ n := by rw [turned_len]; omega
  have h0 : r.getD 0 0 ≤ (n : Int) := by
    cases r with
    | nil => show (0 : Int) ≤ _; omega
    | cons a r => exact hn
  rw [mem_beads hl, mem_beads hm]
  constructor
  · rintro ⟨j, hj, rfl⟩
    unfold dAt
    rw [turned_getD hr]
    have hL := linesAt_le r (j : Int)
    refine ⟨by omega, by omega, ?_⟩
    rintro ⟨l, hl', e⟩
    have a := lines_iff hr j l
    by_cases z : l < linesAt r (j : Int)
    · have := a.mp z; omega
    · have := fun q => z (a.mpr q); omega
  · rintro ⟨y0, y1, hy⟩
    obtain ⟨f, hf⟩ : ∃ f : Int, f = (m : Int) + (n : Int) - 1 - y := ⟨_, rfl⟩
    rw [← hf] at hy
    have hne : ∀ l : Nat, l < m → f ≠ dAt r m l := fun l hl' e => hy ⟨l, hl', e⟩
    have key : ∀ i : Nat, i ≤ m → (∀ l : Nat, l < i → f < dAt r m l) ∨ ∃ L : Nat, L < i ∧ (∀ l : Nat, l < L → f < dAt r m l) ∧ dAt r m L < f := fun i => by
      induction i with
      | zero => intro _; exact .inl fun l h => absurd h (Nat.not_lt_zero l)
      | succ i ih =>
        intro hi
        rcases ih (by omega) with a | ⟨L, hL, a, b⟩
        · have := hne i (by omega)
          by_cases z : f < dAt r m i
          · refine .inl fun l hl' => ?_
            by_cases q : l = i
            · rw [q]; exact z
            · exact a l (by omega)
          · exact .inr ⟨i, by omega, a, by omega⟩
        · exact .inr ⟨L, by omega, a, b⟩
    obtain ⟨L, hL, ha, hb⟩ : ∃ L : Nat, L ≤ m ∧ (∀ l : Nat, l < L → f < dAt r m l) ∧ r.getD L 0 ≤ f - (m : Int) + (L : Int) := by
      rcases key m (Nat.le_refl _) with a | ⟨L, hL, a, b⟩
      · exact ⟨m, Nat.le_refl _, a, by rw [getD_ge hm]; omega⟩
      · exact ⟨L, by omega, a, by unfold dAt at b; omega⟩
    have hp := (row_all hr L).1
    obtain ⟨j, hj⟩ : ∃ j : Nat, (j : Int) = f - (m : Int) + (L : Int) := ⟨(f - (m : Int) + (L : Int)).toNat, by omega⟩
    have hlow : ∀ l : Nat, l < L → (j : Int) < r.getD l 0 := fun l hl' => by
      have a1 := ha (L - 1) (by omega)
      have a2 := row_mono hr (show l ≤ L - 1 by omega)
      unfold dAt at a1
      omega
    have hLn := lines_is hr hlow (by omega)
    have hjn : j < n := by
      by_cases z : L = 0
      · omega
      · have := hlow 0 (by omega); omega
    refine ⟨j, hjn, ?_⟩
    unfold dAt
    rw [turned_getD hr, hLn]
    omega
def pr (x : Int) : List Int → Int
  | [] => 1
  | y :: ys => (x - y) * pr x ys
def vd : List Int → Int
  | [] => 1
  | y :: ys => pr y ys * vd ys
def sI (n : Nat) (f : Nat → Int) : Int := ((List.range n).map f).sum
theorem sI_cons (n : Nat) (f : Nat → Int) : sI (n + 1) f = f 0 + sI n fun i => f (i + 1) := by
  unfold sI
  rw [List.range_succ_eq_map, List.map_cons, List.sum_cons, List.map_map]
  rfl
theorem sI_congr {n : Nat} {f g : Nat → Int} (h : ∀ i : Nat, i < n → f i = g i) : sI n f = sI n g := by
  unfold sI
  rw [List.map_congr_left fun i hi => h i (List.mem_range.mp hi)]
theorem sI_add (n : Nat) (f g : Nat → Int) : sI n (fun i => f i + g i) = sI n f + sI n g := sum_map_add _ f g
theorem sI_mul (n : Nat) (c : Int) (f : Nat → Int) : sI n (fun i => c * f i) = c * sI n f := by
  induction n with
  | zero => show (0 : Int) = c * 0; omega
  | succ n ih =>
    unfold sI at ih ⊢
    rw [List.range_succ, List.map_append, List.map_append, List.sum_append, List.sum_append, ih]
    simp only [List.map_cons, List.map_nil, List.sum_cons, List.sum_nil]
    grind
theorem pr_pick (x : Int) : ∀ {ys : List Int} {i : Nat}, i < ys.length → pr x ys = (x - ys.getD i 0) * pr x (ys.eraseIdx i)
  | [], i, h => absurd h (Nat.not_lt_zero i)
  | y :: ys, 0, _ => rfl
  | y :: ys, i + 1, h => by
    have ih := pr_pick x (ys := ys) (i := i) (by rw [List.length_cons] at h; omega)
    show (x - y) * pr x ys = (x - ys.getD i 0) * ((x - y) * pr x (ys.eraseIdx i))
    rw [ih]; grind
theorem pr_less (x : Int) : ∀ {ys : List Int} {i : Nat}, i < ys.length → pr x (ys.set i (ys.getD i 0 - 1)) = pr x ys + pr x (ys.eraseIdx i)
  | [], i, h => absurd h (Nat.not_lt_zero i)
  | y :: ys, 0, _ => by
    show (x - (y - 1)) * pr x ys = (x - y) * pr x ys + pr x ys
    grind
  | y :: ys, i + 1, h => by
    have ih := pr_less x (ys := ys) (i := i) (by rw [List.length_cons] at h; omega)
    show (x - y) * pr x (ys.set i (ys.getD i 0 - 1)) = (x - y) * pr x ys + (x - y) * pr x (ys.eraseIdx i)
    rw [ih]; grind
def wS (x : Int) (ys : List Int) : Int := sI ys.length fun i => ys.getD i 0 * pr x (ys.eraseIdx i) * vd (ys.set i (ys.getD i 0 - 1))
theorem wS_eq : ∀ (ys : List Int) (x : Int), wS x ys = ((x - (ys.length : Int)) * pr x ys - x * pr (x - 1) ys) * vd ys
  | [], x => by show (0 : Int) = ((x - 0) * 1 - x * 1) * 1; grind
  | z :: zs, x => by
    have ihx := wS_eq zs x
    have ihz := wS_eq zs z
    have e : wS x (z :: zs) = z * pr x zs * (pr (z - 1) zs * vd zs) + sI zs.length fun i => zs.getD i 0 * ((x - z) * pr x (zs.eraseIdx i)) * (pr z (zs.set i (zs.getD i 0 - 1)) * vd (zs.set i (zs.getD i 0 - 1))) := by
      unfold wS
      rw [List.length_cons, sI_cons]
      rfl
    have e2 : (sI zs.length fun i => zs.getD i 0 * ((x - z) * pr x (zs.eraseIdx i)) * (pr z (zs.set i (zs.getD i 0 - 1)) * vd (zs.set i (zs.getD i 0 - 1)))) = (x - z) * pr z zs * wS x zs + (pr x zs * wS z zs + (0 - pr z zs) * wS x zs) := by
      unfold wS
      rw [← sI_mul, ← sI_mul, ← sI_mul, ← sI_add, ← sI_add]
      refine sI_congr fun i hi => ?_
      have a := pr_pick x (ys := zs) hi
      have b := pr_pick z (ys := zs) hi
      rw [pr_less z hi, a, b]
      grind
    rw [e, e2, ihx, ihz]
    show _ = ((x - ((zs.length + 1 : Nat) : Int)) * ((x - z) * pr x zs) - x * ((x - 1 - z) * pr (x - 1) zs)) * (pr z zs * vd zs)
    have hc : ((zs.length + 1 : Nat) : Int) = (zs.length : Int) + 1 := by omega
    rw [hc]
    generalize pr x zs = A
    generalize pr z zs = B
    generalize pr (z - 1) zs = C
    generalize pr (x - 1) zs = D
    generalize vd zs = W
    generalize (zs.length : Int) = n
    grind
theorem vd_sum : ∀ ys : List Int, 2 * sI ys.length (fun i => ys.getD i 0 * vd (ys.set i (ys.getD i 0 - 1))) = (2 * ys.sum - (ys.length : Int) * ((ys.length : Int) - 1)) * vd ys
  | [] => by show (2 : Int) * 0 = (2 * 0 - 0 * (0 - 1)) * 1; grind
  | z :: zs => by
    have ih := vd_sum zs
    have w := wS_eq zs z
    have e : (sI (z :: zs).length fun i => (z :: zs).getD i 0 * vd ((z :: zs).set i ((z :: zs).getD i 0 - 1))) = z * (pr (z - 1) zs * vd zs) + sI zs.length fun i => zs.getD i 0 * (pr z (zs.set i (zs.getD i 0 - 1)) * vd (zs.set i (zs.getD i 0 - 1))) := by
      rw [List.length_cons, sI_cons]
      rfl
    have e2 : (sI zs.length fun i => zs.getD i 0 * (pr z (zs.set i (zs.getD i 0 - 1)) * vd (zs.set i (zs.getD i 0 - 1)))) = pr z zs * (sI zs.length fun i => zs.getD i 0 * vd (zs.set i (zs.getD i 0 - 1))) + wS z zs := by
      unfold wS
      rw [← sI_mul, ← sI_add]
      refine sI_congr fun i hi => ?_
      rw [pr_less z hi]
      grind
    rw [e, e2, w, List.sum_cons, List.length_cons]
    show _ = _ * (pr z zs * vd zs)
    have hc : ((zs.length + 1 : Nat) : Int) = (zs.length : Int) + 1 := by omega
    rw [hc]
    generalize (sI zs.length fun i => zs.getD i 0 * vd (zs.set i (zs.getD i 0 - 1))) = A at ih ⊢
    generalize pr z zs = B
    generalize pr (z - 1) zs = C
    generalize vd zs = W at ih ⊢
    generalize (zs.length : Int) = n at ih ⊢
    generalize zs.sum = s at ih ⊢
    have h2 : 2 * (B * A) = B * ((2 * s - n * (n - 1)) * W) := by rw [← ih]; grind
    grind

def prodL : List Int → Int
  | [] => 1
  | x :: l => x * prodL l
theorem prodL_perm {a b : List Int} (h : a.Perm b) : prodL a = prodL b := by
  induction h with
  | nil => rfl
  | cons x _ ih => show x * _ = x * _; rw [ih]
  | swap x y l => show y * (x * prodL l) = x * (y * prodL l); grind
  | trans _ _ h1 h2 => rw [h1, h2]
theorem prodL_append : ∀ a b : List Int, prodL (a ++ b) = prodL a * prodL b
  | [], b => by show prodL b = 1 * prodL b; omega
  | x :: a, b => by show x * prodL (a ++ b) = x * prodL a * prodL b; rw [prodL_append a b]; grind
theorem prodL_sub (x : Int) : ∀ ys : List Int, prodL (ys.map fun y => x - y) = pr x ys
  | [] => rfl
  | y :: ys => by show (x - y) * prodL _ = (x - y) * pr x ys; rw [prodL_sub x ys]
def factI : Nat → Int
  | 0 => 1
  | n + 1 => factI n * ((n : Int) + 1)
theorem fact_pos : ∀ n : Nat, 0 < factI n
  | 0 => by decide
  | n + 1 => Int.mul_pos (fact_pos n) (by omega)
theorem prodL_one : ∀ n : Nat, prodL ((List.range n).map fun (i : Nat) => (i : Int) + 1) = factI n
  | 0 => rfl
  | n + 1 => by
    rw [List.range_succ, List.map_append, prodL_append, prodL_one n]
    show factI n * (((n : Int) + 1) * 1) = factI n * ((n : Int) + 1)
    grind
def pI : Nat → (Nat → Int) → Int
  | 0, _ => 1
  | n + 1, f => f 0 * pI n fun i => f (i + 1)
theorem pI_congr : ∀ {n : Nat} {f g : Nat → Int}, (∀ i : Nat, i < n → f i = g i) → pI n f = pI n g
  | 0, _, _, _ => rfl
  | n + 1, f, g, h => by
    show f 0 * pI n _ = g 0 * pI n _
    rw [h 0 (by omega), pI_congr (n := n) (f := fun i => f (i + 1)) (g := fun i => g (i + 1)) fun i hi => h (i + 1) (by omega)]
theorem pI_mul : ∀ (n : Nat) (f g : Nat → Int), pI n (fun i => f i * g i) = pI n f * pI n g
  | 0, _, _ => rfl
  | n + 1, f, g => by
    show f 0 * g 0 * pI n _ = f 0 * pI n _ * (g 0 * pI n _)
    rw [pI_mul n (fun i => f (i + 1)) fun i => g (i + 1)]; grind
theorem pI_pos : ∀ {n : Nat} {f : Nat → Int}, (∀ i : Nat, i < n → 0 < f i) → 0 < pI n f
  | 0, _, _ => by show (0 : Int) < 1; decide
  | n + 1, f, h => Int.mul_pos (h 0 (by omega)) (pI_pos fun i hi => h (i + 1) (by omega))
theorem pI_add (f : Nat → Int) : ∀ (n : Nat) (g : Nat → Int) (d : Nat), (∀ i : Nat, n ≤ i → g i = 1) → pI (n + d) g = pI n g := fun n => by
  induction n generalizing f with
  | zero =>
    intro g d h
    induction d generalizing g with
    | zero => rfl
    | succ d ih =>
      show g 0 * pI (0 + d) _ = 1
      rw [h 0 (Nat.le_refl _), ih (fun i => g (i + 1)) fun i _ => h (i + 1) (Nat.zero_le _)]; rfl
  | succ n ih =>
    intro g d h
    rw [show n + 1 + d = (n + d) + 1 by omega]
    show g 0 * pI (n + d) _ = g 0 * pI n _
    rw [ih f (fun i => g (i + 1)) d fun i hi => h (i + 1) (by omega)]
theorem vd_pI : ∀ D : List Int, vd D = pI D.length fun k => pr (D.getD k 0) (D.drop (k + 1))
  | [] => rfl
  | y :: ys => by
    show pr y ys * vd ys = pr y ys * pI ys.length fun k => pr (ys.getD k 0) (ys.drop (k + 1))
    rw [vd_pI ys]
def topD (r : List Int) (m : Nat) : List Int := (List.range m).map (dAt r m)
theorem top_len (r : List Int) (m : Nat) : (topD r m).length = m := by unfold topD; rw [List.length_map, List.length_range]
theorem top_at {r : List Int} {m k : Nat} (h : k < m) : (topD r m).getD k 0 = dAt r m k := by
  unfold topD
  rw [List.getD_eq_getElem?_getD, List.getElem?_map, List.getElem?_range h]
  rfl
theorem mem_drop {r : List Int} {m k : Nat} {y : Int} : y ∈ (topD r m).drop k ↔ ∃ l : Nat, k ≤ l ∧ l < m ∧ y = dAt r m l := by
  constructor
  · intro h
    obtain ⟨i, hi, e⟩ := List.getElem_of_mem h
    rw [List.length_drop, top_len] at hi
    refine ⟨k + i, by omega, by omega, ?_⟩
    rw [← e, List.getElem_drop, getD_elem, top_at (by omega)]
  · rintro ⟨l, h1, h2, rfl⟩
    refine List.mem_iff_getElem.mpr ⟨l - k, by rw [List.length_drop, top_len]; omega, ?_⟩
    rw [List.getElem_drop, getD_elem, show k + (l - k) = l by omega, top_at h2]
theorem dAt_pos {r : List Int} (hr : IsRow r) {m l : Nat} (h : l < m) : 0 ≤ dAt r m l := by
  have := (row_all hr l).1
  unfold dAt; omega
theorem free_is {r : List Int} (hr : IsRow r) {m : Nat} (hm : r.length ≤ m) {p : Int} (hp : 0 ≤ p) (h : p ∉ beadsM r m) : ∃ j : Nat, p = (j : Int) + (m : Int) - (linesAt r (j : Int) : Int) := by
  have hh := row_head hr
  obtain ⟨n, hn⟩ : ∃ n : Nat, n = (r.headD 0).toNat + p.toNat := ⟨_, rfl⟩
  have T := (turn_mem hr hm (n := n) (by omega) ((m : Int) + (n : Int) - 1 - p)).mpr
  rw [show (m : Int) + (n : Int) - 1 - ((m : Int) + (n : Int) - 1 - p) = p by omega] at T
  by_cases z : 0 ≤ (m : Int) + (n : Int) - 1 - p
  · obtain ⟨j, hj, e⟩ := (mem_beads (by rw [turned_len]; omega)).mp (T ⟨z, by omega, h⟩)
    refine ⟨j, ?_⟩
    unfold dAt at e
    rw [turned_getD hr] at e
    omega
  · have hr0 : r = [] := by
      cases r with
      | nil => rfl
      | cons a r => have := isRow_pos hr a (List.mem_cons_self ..); have hc : (a :: r).headD 0 = a := rfl; rw [hc] at hn hh; omega
    subst hr0
    exact ⟨(p - (m : Int)).toNat, by rw [linesAt_nil]; omega⟩
theorem hook_line {r : List Int} (hr : IsRow r) {m k j : Nat} (hk : k < r.length) (hj : (j : Int) < r.getD k 0) : r.getD k 0 - (j : Int) + (linesAt (r.drop (k + 1)) (j : Int) : Int) = dAt r m k - ((j : Int) + (m : Int) - (linesAt r (j : Int) : Int)) := by
  have := hook_two (isRow_pair hr) hk hj
  unfold dAt
  omega
theorem line_all {r : List Int} (hr : IsRow r) {m : Nat} (hm : r.length ≤ m) {k : Nat} (hk : k < m) : prodL (hookLine r k) * pr (dAt r m k) ((topD r m).drop (k + 1)) = factI (dAt r m k).toNat := by
  have d0 := dAt_pos hr hk
  rw [← prodL_sub, ← prodL_append, ← prodL_one]
  refine prodL_perm ((List.perm_ext_iff_of_nodup ?_ ?_).mpr fun y => ?_)
  · rw [List.nodup_append]
    refine ⟨?_, ?_, fun a ha b hb e => ?_⟩
    · unfold hookLine
      refine List.nodup_iff_pairwise_ne.mpr (List.pairwise_map.mpr (List.pairwise_lt_range.imp_of_mem fun {i j} hi hj hij e => ?_))
      rw [List.mem_range] at hi hj
      by_cases z : k < r.length
      · rw [hook_line hr (m := m) z (by omega), hook_line hr (m := m) z (by omega)] at e
        have : linesAt r (j : Int) ≤ linesAt r (i : Int) := by
          by_cases q : linesAt r (j : Int) ≤ linesAt r (i : Int)
          · exact q
          · have a1 := (lines_iff hr j (linesAt r (i : Int))).mp (by omega)
            have a2 := (lines_iff hr i (linesAt r (i : Int))).mpr (by omega)
            omega
        omega
      · rw [getD_ge (by omega)] at hi; exact absurd hi (Nat.not_lt_zero _)
    · refine List.nodup_iff_pairwise_ne.mpr (List.pairwise_map.mpr ?_)
      refine List.pairwise_iff_getElem.mpr fun i j hi hj hij e => ?_
      rw [List.length_drop, top_len] at hi hj
      rw [List.getElem_drop, List.getElem_drop, getD_elem, getD_elem, top_at (by omega), top_at (by omega)] at e
      have := dAt_gt hr m (show k + 1 + i < k + 1 + j by omega)
      omega
    · obtain ⟨z, hz, rfl⟩ := List.mem_map.mp hb
      obtain ⟨l, h1, h2, rfl⟩ := mem_drop.mp hz
      obtain ⟨j, hj, rfl⟩ := List.mem_map.mp ha
      rw [List.mem_range] at hj
      by_cases q : k < r.length
      · rw [hook_line hr (m := m) q (by omega)] at e
        by_cases w : l < linesAt r (j : Int)
        · have := (lines_iff hr j l).mp w
          unfold dAt at e; omega
        · have : ¬ (j : Int) < r.getD l 0 := fun u => w ((lines_iff hr j l).mpr u)
          unfold dAt at e; omega
      · rw [getD_ge (by omega)] at hj; exact absurd hj (Nat.not_lt_zero _)
  · exact List.nodup_iff_pairwise_ne.mpr (List.pairwise_map.mpr (List.pairwise_lt_range.imp fun {i j} hij e => by omega))
  · rw [List.mem_append, List.mem_map, List.mem_map]
    constructor
    · rintro (h | ⟨z, hz, rfl⟩)
      · obtain ⟨j, hj, rfl⟩ := List.mem_map.mp h
        rw [List.mem_range] at hj
        by_cases q : k < r.length
        · rw [hook_line hr (m := m) q (by omega)]
          have hl := linesAt_le r (j : Int)
          have h1 := (lines_iff hr j k).mpr (by omega)
          refine ⟨(dAt r m k - ((j : Int) + (m : Int) - (linesAt r (j : Int) : Int)) - 1).toNat, List.mem_range.mpr ?_, ?_⟩
          · unfold dAt; omega
          · unfold dAt; omega
        · rw [getD_ge (by omega)] at hj; exact absurd hj (Nat.not_lt_zero _)
      · obtain ⟨l, h1, h2, rfl⟩ := mem_drop.mp hz
        have a1 := dAt_gt hr m (show k < l by omega)
        have a2 := dAt_pos hr h2
        exact ⟨(dAt r m k - dAt r m l - 1).toNat, List.mem_range.mpr (by omega), by omega⟩
    · rintro ⟨i, hi, rfl⟩
      rw [List.mem_range] at hi
      by_cases q : dAt r m k - ((i : Int) + 1) ∈ beadsM r m
      · obtain ⟨l, hl, e⟩ := (mem_beads hm).mp q
        right
        refine ⟨dAt r m l, mem_drop.mpr ⟨l, ?_, hl, rfl⟩, by omega⟩
        by_cases w : k < l
        · omega
        · by_cases w2 : l = k
          · rw [w2] at e; omega
          · have := dAt_gt hr m (show l < k by omega); omega
      · obtain ⟨j, e⟩ := free_is hr hm (by omega) q
        left
        have hj : (j : Int) < r.getD k 0 := by
          by_cases w : (j : Int) < r.getD k 0
          · exact w
          · have : ¬ k < linesAt r (j : Int) := fun u => w ((lines_iff hr j k).mp u)
            unfold dAt at e; omega
        have hkl : k < r.length := by
          by_cases w : k < r.length
          · exact w
          · rw [getD_ge (by omega)] at hj; omega
        refine List.mem_map.mpr ⟨j, List.mem_range.mpr (by omega), ?_⟩
        rw [hook_line hr (m := m) hkl hj]
        omega
def hookP (r : List Int) : Int := pI r.length fun k => prodL (hookLine r k)
theorem hookP_all {r : List Int} (hr : IsRow r) {m : Nat} (hm : r.length ≤ m) : hookP r * vd (topD r m) = pI m fun k => factI (dAt r m k).toNat := by
  have e : pI m (fun k => prodL (hookLine r k)) = hookP r := by
    have := pI_add (fun _ => 0) r.length (fun k => prodL (hookLine r k)) (m - r.length) fun i hi => by
      unfold hookLine
      rw [getD_ge hi]; rfl
    rw [show r.length + (m - r.length) = m by omega] at this
    exact this
  rw [← e, vd_pI, top_len, ← pI_mul]
  refine pI_congr fun k hk => ?_
  rw [top_at hk]
  exact line_all hr hm hk
theorem prodL_flat : ∀ L : List (List Int), prodL L.flatten = pI L.length fun k => prodL (L.getD k [])
  | [] => rfl
  | l :: L => by
    rw [List.flatten_cons, prodL_append, prodL_flat L]; rfl
theorem hookP_flat (r : List Int) : prodL (hooksM r).flatten = hookP r := by
  rw [prodL_flat, hooksM_len]
  exact pI_congr fun k hk => by rw [hooksM_at hk]

theorem pr_zero (x : Int) : ∀ {ys : List Int}, x ∈ ys → pr x ys = 0
  | y :: ys, h => by
    rcases List.mem_cons.mp h with e | e
    · show (x - y) * pr x ys = 0
      rw [e, Int.sub_self, Int.zero_mul]
    · show (x - y) * pr x ys = 0
      rw [pr_zero x e, Int.mul_zero]
theorem vd_zero : ∀ {D : List Int} {i : Nat} {v : Int}, v ∈ D.drop (i + 1) → vd (D.set i v) = 0
  | [], i, v, h => absurd h (by simp)
  | y :: ys, 0, v, h => by
    show pr v ys * vd ys = 0
    have h' : v ∈ ys := h
    rw [pr_zero v h', Int.zero_mul]
  | y :: ys, i + 1, v, h => by
    show pr y _ * vd (ys.set i v) = 0
    have h' : v ∈ ys.drop (i + 1) := h
    rw [vd_zero h', Int.mul_zero]
theorem pr_ne {x : Int} : ∀ {ys : List Int}, (∀ y ∈ ys, y < x) → 0 < pr x ys
  | [], _ => by show (0 : Int) < 1; decide
  | y :: ys, h => Int.mul_pos (by have := h y (List.mem_cons_self ..); omega) (pr_ne fun z hz => h z (List.mem_cons_of_mem _ hz))
theorem vd_pos : ∀ {D : List Int}, D.Pairwise (fun a b => b < a) → 0 < vd D
  | [], _ => by show (0 : Int) < 1; decide
  | y :: ys, h => by
    have h' := List.pairwise_cons.mp h
    exact Int.mul_pos (pr_ne h'.1) (vd_pos h'.2)
theorem top_pos {r : List Int} (hr : IsRow r) (m : Nat) : 0 < vd (topD r m) := by
  refine vd_pos (List.pairwise_map.mpr ?_)
  exact List.pairwise_lt_range.imp fun {i j} hij => dAt_gt hr m hij
theorem top_sum {r : List Int} (hr : IsRow r) {m : Nat} (hm : r.length ≤ m) : 2 * (topD r m).sum - (m : Int) * ((m : Int) - 1) = 2 * r.sum := by
  have e : (topD r m).sum = (beadsM r m).sum := by
    unfold topD
    rw [← beads_rev hm]
    exact perm_sum (List.reverse_perm _)
  have b := beads_up hr hm
  have s := rowOf_sum (up_rise b.1 b.2)
  rw [rowOf_beads (isRow_pos hr) hm, beads_len] at s
  rw [e]; omega
theorem rim_top {r : List Int} {k L : Nat} {j : Int} (C : Cut r k L j) (h : L = k + 1) (hj : j = r.getD k 0 - 1) (m : Nat) : topD (cutR r k L j) m = (topD r m).set k (dAt r m k - 1) := by
  refine List.ext_getElem (by rw [List.length_set, top_len, top_len]) fun i h1 h2 => ?_
  rw [top_len] at h1
  rw [List.getElem_set]
  rw [getD_elem (by rw [top_len]; exact h1), top_at h1, cut_at C]
  by_cases z : k = i
  · subst z
    rw [if_neg (by omega), if_neg (by omega), if_pos (by omega), if_pos rfl]
    unfold dAt; omega
  · rw [if_neg z, getD_elem (by rw [top_len]; exact h1), top_at h1]
    by_cases z1 : i < k
    · rw [if_pos z1]
    · rw [if_neg z1, if_neg (by omega), if_neg (by omega)]
def endAt (r : List Int) (k : Nat) : Prop := r.getD (k + 1) 0 < r.getD k 0
instance (r : List Int) (k : Nat) : Decidable (endAt r k) := by unfold endAt; infer_instance
def lessAt (r : List Int) (k : Nat) : List Int := cutR r k (k + 1) (r.getD k 0 - 1)
theorem end_cut {r : List Int} (hr : IsRow r) {k : Nat} (h : endAt r k) : Cut r k (k + 1) (r.getD k 0 - 1) := by
  unfold endAt at h
  have h0 := (row_all hr (k + 1)).1
  refine ⟨hr, by omega, by omega, ?_, fun l hl => ?_, by omega⟩
  · by_cases z : k < r.length
    · exact z
    · rw [getD_ge (l := k) (by omega)] at h; omega
  · have := row_mono hr (show l ≤ k by omega); omega
theorem less_row {r : List Int} (hr : IsRow r) {k : Nat} (h : endAt r k) : IsRow (lessAt r k) ∧ (lessAt r k).length ≤ r.length ∧ (lessAt r k).sum = r.sum - 1 := by
  have R := rim_cut (t := 1) (end_cut hr h) (by omega)
  exact ⟨R.row, R.len, R.sum⟩
def fillN : Nat → List Int → Int
  | 0, _ => 1
  | n + 1, r => if r.length = 0 then 1 else sI r.length fun k => if endAt r k then fillN n (lessAt r k) else 0
theorem hook_rec {r : List Int} (hr : IsRow r) {g : Nat → Int} (hg : ∀ k : Nat, k < r.length → endAt r k → g k * hookP (lessAt r k) = factI (r.sum.toNat - 1)) (hne : 0 < r.length) :
    (sI r.length fun k => if endAt r k then g k else 0) * hookP r = factI r.sum.toNat := by
  have hs := row_len hr
  obtain ⟨n, hn⟩ : ∃ n : Nat, r.sum.toNat = n + 1 := ⟨r.sum.toNat - 1, by omega⟩
  rw [hn, Nat.add_sub_cancel] at hg
  obtain ⟨m, hm⟩ : ∃ m : Nat, m = r.length := ⟨_, rfl⟩
  have vp := top_pos hr m
  have H := hookP_all hr (m := m) (by omega)
  have S := vd_sum (topD r m)
  rw [top_len, top_sum hr (by omega)] at S
  have S2 : (sI m fun i => (topD r m).getD i 0 * vd ((topD r m).set i ((topD r m).getD i 0 - 1))) = r.sum * vd (topD r m) := by
    have e : 2 * r.sum * vd (topD r m) = 2 * (r.sum * vd (topD r m)) := by rw [Int.mul_assoc]
    rw [e] at S
    omega
  have key : (sI m fun k => (if endAt r k then g k else 0) * (hookP r * vd (topD r m))) = sI m fun i => factI n * ((topD r m).getD i 0 * vd ((topD r m).set i ((topD r m).getD i 0 - 1))) := by
    refine sI_congr fun i hi => ?_
    rw [top_at hi]
    by_cases z : endAt r i
    · rw [if_pos z]
      have C := end_cut hr z
      have hl := less_row hr z
      have H2 := hookP_all hl.1 (m := m) (by omega)
      have et : topD (lessAt r i) m = (topD r m).set i (dAt r m i - 1) := rim_top C rfl rfl m
      rw [et] at H2
      have hg' := hg i (by omega) z
      rw [H]
      have hd : 1 ≤ dAt r m i := by have := (row_all hr (i + 1)).1; unfold endAt at z; unfold dAt; omega
      have hf : pI m (fun k => factI (dAt r m k).toNat) = dAt r m i * pI m fun k => factI (dAt (lessAt r i) m k).toNat := by
        have e1 : ∀ k : Nat, k < m → factI (dAt r m k).toNat = (if k = i then dAt r m i else 1) * factI (dAt (lessAt r i) m k).toNat := fun k hk => by
          have e2 : dAt (lessAt r i) m k = if k = i then dAt r m i - 1 else dAt r m k := by
            have : (topD (lessAt r i) m).getD k 0 = ((topD r m).set i (dAt r m i - 1)).getD k 0 := by rw [et]
            rw [top_at hk, List.getD_eq_getElem?_getD] at this
            rw [this]
            by_cases q : k = i
            · subst q
              rw [if_pos rfl, List.getElem?_set_self (by rw [top_len]; exact hk)]; rfl
            · rw [if_neg q, List.getElem?_set_ne (Ne.symm q), ← List.getD_eq_getElem?_getD, top_at hk]
          rw [e2]
          by_cases q : k = i
          · subst q
            rw [if_pos rfl, if_pos rfl]
            obtain ⟨w, hw⟩ : ∃ w : Nat, dAt r m k = (w : Int) + 1 := ⟨(dAt r m k - 1).toNat, by omega⟩
            rw [hw, show ((w : Int) + 1).toNat = w + 1 by omega, show ((w : Int) + 1 - 1).toNat = w by omega]
            show factI w * ((w : Int) + 1) = _
            grind
          · rw [if_neg q, if_neg q, Int.one_mul]
        rw [pI_congr e1, pI_mul]
        congr 1
        have : ∀ (m i : Nat) (c : Int), i < m → pI m (fun k => if k = i then c else 1) = c := fun m => by
          induction m with
          | zero => intro i c h; exact absurd h (Nat.not_lt_zero i)
          | succ m ih =>
            intro i c h
            show (if 0 = i then c else 1) * pI m (fun k => if k + 1 = i then c else 1) = c
            cases i with
            | zero =>
              rw [if_pos rfl]
              have : pI m (fun k => if k + 1 = 0 then c else 1) = 1 := by
                rw [pI_congr (g := fun _ => 1) fun k _ => if_neg (by omega)]
                clear ih
                induction m with
                | zero => rfl
                | succ m ih => show 1 * pI m _ = 1; rw [ih (by omega)]; rfl
              rw [this, Int.mul_one]
            | succ i =>
              rw [if_neg (by omega), Int.one_mul]
              have e : pI m (fun k => if k + 1 = i + 1 then c else 1) = pI m (fun k => if k = i then c else 1) := pI_congr fun k _ => by
                by_cases q : k = i
                · rw [if_pos q, if_pos (by omega)]
                · rw [if_neg q, if_neg (by omega)]
              rw [e]
              exact ih i c (by omega)
        exact this m i _ hi
      rw [hf, ← H2, ← hg']
      grind
    · rw [if_neg z, Int.zero_mul]
      have : dAt r m i * vd ((topD r m).set i (dAt r m i - 1)) = 0 := by
        unfold endAt at z
        have h2 := (row_all hr i).2
        by_cases q : i + 1 < m
        · rw [vd_zero (mem_drop.mpr ⟨i + 1, Nat.le_refl _, q, by unfold dAt; omega⟩), Int.mul_zero]
        · have hl := isRow_pos hr (r.getD i 0) (by rw [← getD_elem (show i < r.length by omega)]; exact List.getElem_mem _)
          rw [getD_ge (l := i + 1) (by omega)] at z
          omega
      rw [this, Int.mul_zero]
  rw [sI_mul, S2] at key
  have key2 : (sI m fun k => (if endAt r k then g k else 0) * (hookP r * vd (topD r m))) = (sI m fun k => if endAt r k then g k else 0) * (hookP r * vd (topD r m)) := by
    have : (fun k : Nat => (if endAt r k then g k else 0) * (hookP r * vd (topD r m))) = fun k : Nat => (hookP r * vd (topD r m)) * (if endAt r k then g k else 0) := by
      funext k; exact Int.mul_comm _ _
    rw [this, sI_mul, Int.mul_comm]
  rw [key2] at key
  rw [← hm]
  refine Int.eq_of_mul_eq_mul_right (Int.ne_of_gt vp) ?_
  rw [Int.mul_assoc, key, hn]
  show factI n * (r.sum * vd (topD r m)) = factI n * ((n : Int) + 1) * vd (topD r m)
  have : r.sum = (n : Int) + 1 := by omega
  rw [this]; grind
theorem fill_hook : ∀ (n : Nat) {r : List Int}, IsRow r → r.sum ≤ (n : Int) → fillN n r * hookP r = factI r.sum.toNat
  | 0, r, hr, h => by
    have := row_len hr
    have e : r = [] := List.length_eq_zero_iff.mp (by omega)
    rw [e]; rfl
  | n + 1, r, hr, h => by
    show (if r.length = 0 then 1 else _) * _ = _
    by_cases z : r.length = 0
    · rw [if_pos z, List.length_eq_zero_iff.mp z]; rfl
    · rw [if_neg z]
      refine hook_rec hr (g := fun k => fillN n (lessAt r k)) (fun k hk he => ?_) (by omega)
      have hl := less_row hr he
      rw [fill_hook n hl.1 (by omega), hl.2.2]
      congr 1
      omega

theorem hookP_pos {r : List Int} (hr : IsRow r) : 0 < hookP r := by
  have h := hookP_all hr (Nat.le_refl _)
  have v := top_pos hr r.length
  have p : 0 < pI r.length fun k => factI (dAt r r.length k).toNat := pI_pos fun i _ => fact_pos _
  rw [← h] at p
  by_cases z : 0 < hookP r
  · exact z
  · have := Int.mul_le_mul_of_nonneg_right (show hookP r ≤ 0 by omega) (show 0 ≤ vd (topD r r.length) by omega)
    omega
def fillM (r : List Int) : Int := factI r.sum.toNat / hookP r
theorem fill_eq {r : List Int} (hr : IsRow r) : fillM r * hookP r = factI r.sum.toNat := by
  have h0 := (row_head hr)
  have h := fill_hook r.sum.toNat hr (by omega)
  have p := hookP_pos hr
  unfold fillM
  rw [← h, Int.mul_ediv_cancel _ (by omega)]
theorem fill_rec {r : List Int} (hr : IsRow r) (hne : 0 < r.length) : (sI r.length fun k => if endAt r k then fillM (lessAt r k) else 0) = fillM r := by
  have h := hook_rec hr (g := fun k => fillM (lessAt r k)) (fun k hk he => by
    have hl := less_row hr he
    rw [fill_eq hl.1, hl.2.2]
    congr 1
    omega) hne
  have p := hookP_pos hr
  rw [← fill_eq hr] at h
  exact Int.eq_of_mul_eq_mul_right (by omega) h
theorem fact_two : ∀ (n a b : Nat), a + b = n → ∃ c : Int, c * (factI a * factI b) = factI (a + b) := fun n => by
  induction n with
  | zero => intro a b h; obtain ⟨rfl, rfl⟩ : a = 0 ∧ b = 0 := by omega
            exact ⟨1, rfl⟩
  | succ n ih =>
    intro a b h
    cases a with
    | zero => exact ⟨1, by rw [Nat.zero_add]; show 1 * (1 * factI b) = factI b; omega⟩
    | succ a =>
      cases b with
      | zero => exact ⟨1, by show 1 * (factI (a + 1) * 1) = factI (a + 1); omega⟩
      | succ b =>
        obtain ⟨c1, h1⟩ := ih a (b + 1) (by omega)
        obtain ⟨c2, h2⟩ := ih (a + 1) b (by omega)
        refine ⟨c1 + c2, ?_⟩
        have e1 : a + (b + 1) = a + b + 1 := by omega
        have e2 : a + 1 + b = a + b + 1 := by omega
        have e3 : a + 1 + (b + 1) = (a + b + 1) + 1 := by omega
        rw [e1] at h1
        rw [e2] at h2
        rw [e3]
        have g1 : factI (a + 1) = factI a * ((a : Int) + 1) := rfl
        have g2 : factI (b + 1) = factI b * ((b : Int) + 1) := rfl
        have g3 : factI (a + b + 1 + 1) = factI (a + b + 1) * (((a + b + 1 : Nat) : Int) + 1) := rfl
        rw [g3]
        have g4 : (((a + b + 1 : Nat) : Int) + 1) = ((a : Int) + 1) + ((b : Int) + 1) := by omega
        rw [g4, Int.mul_add]
        have k1 : c1 * (factI (a + 1) * factI (b + 1)) = factI (a + b + 1) * ((a : Int) + 1) := by rw [g1, ← h1]; grind
        have k2 : c2 * (factI (a + 1) * factI (b + 1)) = factI (a + b + 1) * ((b : Int) + 1) := by rw [g2, ← h2]; grind
        rw [Int.add_mul, k1, k2]
theorem fact_all : ∀ {l : List Int}, (∀ x ∈ l, 0 ≤ x) → 0 ≤ l.sum ∧ ∃ c : Int, c * prodL (l.map fun x => factI x.toNat) = factI l.sum.toNat
  | [], _ => ⟨Int.le_refl _, 1, rfl⟩
  | x :: l, h => by
    obtain ⟨h0, c, hc⟩ := fact_all (l := l) fun y hy => h y (List.mem_cons_of_mem _ hy)
    have hx := h x (List.mem_cons_self ..)
    obtain ⟨d, hd⟩ := fact_two _ x.toNat l.sum.toNat rfl
    rw [List.sum_cons]
    refine ⟨by omega, d * c, ?_⟩
    show d * c * (factI x.toNat * prodL _) = _
    rw [show (x + l.sum).toNat = x.toNat + l.sum.toNat by omega, ← hd, ← hc]; grind
def mixM (l : List Int) : Int := l.foldl (fun w s => w / factI s.toNat) (factI l.sum.toNat)
theorem mix_part : ∀ (l : List Int) (c : Int), l.foldl (fun w s => w / factI s.toNat) (c * prodL (l.map fun x => factI x.toNat)) = c
  | [], c => by show c * 1 = c; omega
  | x :: l, c => by
    show l.foldl _ (c * (factI x.toNat * prodL _) / factI x.toNat) = c
    have p := fact_pos x.toNat
    have e : c * (factI x.toNat * prodL (l.map fun x => factI x.toNat)) / factI x.toNat = c * prodL (l.map fun x => factI x.toNat) := by
      rw [show c * (factI x.toNat * prodL (l.map fun x => factI x.toNat)) = factI x.toNat * (c * prodL (l.map fun x => factI x.toNat)) by grind]
      exact Int.mul_ediv_cancel_left _ (by omega)
    rw [e]
    exact mix_part l c
theorem mix_eq {l : List Int} (h : ∀ x ∈ l, 0 ≤ x) : mixM l * prodL (l.map fun x => factI x.toNat) = factI l.sum.toNat := by
  obtain ⟨_, c, hc⟩ := fact_all h
  have : mixM l = c := by unfold mixM; rw [← hc]; exact mix_part l c
  rw [this]; exact hc
def sumsQ (Q : List (List Int)) : List Int := Q.map fun q => q.sum
def wayQ (Q : List (List Int)) : Int := Q.foldl (fun w q => w * fillM q) (mixM (sumsQ Q))
def hookQ (Q : List (List Int)) : Int := prodL (Q.map hookP)
theorem way_fold : ∀ (Q : List (List Int)) (c : Int), Q.foldl (fun w q => w * fillM q) c = c * prodL (Q.map fillM)
  | [], c => by show c = c * 1; omega
  | q :: Q, c => by show Q.foldl _ (c * fillM q) = c * (fillM q * prodL _); rw [way_fold Q]; grind
theorem fills_hooks : ∀ {Q : List (List Int)}, (∀ q ∈ Q, IsRow q) → prodL (Q.map fillM) * hookQ Q = prodL ((sumsQ Q).map fun x => factI x.toNat)
  | [], _ => rfl
  | q :: Q, h => by
    have ih := fills_hooks (Q := Q) fun p hp => h p (List.mem_cons_of_mem _ hp)
    have e := fill_eq (h q (List.mem_cons_self ..))
    show fillM q * prodL (Q.map fillM) * (hookP q * hookQ Q) = factI q.sum.toNat * _
    have ih' : prodL (Q.map fillM) * hookQ Q = prodL ((Q.map fun q => q.sum).map fun x => factI x.toNat) := ih
    rw [← e, ← ih']; grind
theorem way_eq {Q : List (List Int)} (h : ∀ q ∈ Q, IsRow q) : wayQ Q * hookQ Q = factI (sumsQ Q).sum.toNat := by
  have hs : ∀ x ∈ sumsQ Q, 0 ≤ x := fun x hx => by
    obtain ⟨q, hq, rfl⟩ := List.mem_map.mp hx
    exact Int.le_trans (row_head (h q hq)).1 (row_head (h q hq)).2
  unfold wayQ
  rw [way_fold, Int.mul_assoc, fills_hooks h, mix_eq hs]
theorem hookQ_pos : ∀ {Q : List (List Int)}, (∀ q ∈ Q, IsRow q) → 0 < hookQ Q
  | [], _ => by show (0 : Int) < 1; decide
  | q :: Q, h => Int.mul_pos (hookP_pos (h q (List.mem_cons_self ..))) (hookQ_pos fun p hp => h p (List.mem_cons_of_mem _ hp))
def wayM (r : List Int) (t : Int) : Int := wayQ (quotM r t)
theorem hookQ_set : ∀ {Q : List (List Int)} {k : Nat} (q : List Int), k < Q.length → hookQ (Q.set k q) * hookP (Q.getD k []) = hookQ Q * hookP q
  | [], k, q, h => absurd h (Nat.not_lt_zero k)
  | p :: Q, 0, q, _ => by
    show hookP q * hookQ Q * hookP p = hookP p * hookQ Q * hookP q
    grind
  | p :: Q, k + 1, q, h => by
    have ih := hookQ_set (Q := Q) (k := k) q (by rw [List.length_cons] at h; omega)
    show hookP p * hookQ (Q.set k q) * hookP (Q.getD k []) = hookP p * hookQ Q * hookP q
    rw [Int.mul_assoc, ih, Int.mul_assoc]
theorem sums_set : ∀ {Q : List (List Int)} {k : Nat} (q : List Int), k < Q.length → (sumsQ (Q.set k q)).sum = (sumsQ Q).sum - (Q.getD k []).sum + q.sum
  | [], k, q, h => absurd h (Nat.not_lt_zero k)
  | p :: Q, 0, q, _ => by
    show (q.sum :: sumsQ Q).sum = (p.sum :: sumsQ Q).sum - p.sum + q.sum
    rw [List.sum_cons, List.sum_cons]; omega
  | p :: Q, k + 1, q, h => by
    have ih := sums_set (Q := Q) (k := k) q (by rw [List.length_cons] at h; omega)
    show (p.sum :: sumsQ (Q.set k q)).sum = (p.sum :: sumsQ Q).sum - (Q.getD k []).sum + q.sum
    rw [List.sum_cons, List.sum_cons, ih]; omega
theorem getD_memQ {Q : List (List Int)} {k : Nat} (h : k < Q.length) : Q.getD k [] ∈ Q := by
  rw [List.getD_eq_getElem?_getD, List.getElem?_eq_getElem h]
  exact List.getElem_mem h
theorem way_row {Q : List (List Int)} (h : ∀ q ∈ Q, IsRow q) {k : Nat} (hk : k < Q.length) : (sI (Q.getD k []).length fun c => if endAt (Q.getD k []) c then wayQ (Q.set k (lessAt (Q.getD k []) c)) else 0) * hookQ Q = factI ((sumsQ Q).sum.toNat - 1) * (Q.getD k []).sum := by
  obtain ⟨q, hq⟩ : ∃ q, q = Q.getD k [] := ⟨_, rfl⟩
  have hrow : IsRow q := by rw [hq]; exact h _ (getD_memQ hk)
  rw [← hq]
  by_cases z : q.length = 0
  · rw [z]
    have : q.sum = 0 := by rw [List.length_eq_zero_iff.mp z]; rfl
    rw [this, Int.mul_zero]; show 0 * _ = 0; omega
  have hs0 := row_len hrow
  obtain ⟨n, hn⟩ : ∃ n : Nat, q.sum.toNat = n + 1 := ⟨q.sum.toNat - 1, by omega⟩
  have hqs : q.sum = (n : Int) + 1 := by omega
  have fp := fact_pos n
  refine Int.eq_of_mul_eq_mul_left (Int.ne_of_gt fp) ?_
  have key : (sI q.length fun c => factI n * ((if endAt q c then wayQ (Q.set k (lessAt q c)) else 0) * hookQ Q)) = sI q.length fun c => (factI ((sumsQ Q).sum.toNat - 1) * hookP q) * (if endAt q c then fillM (lessAt q c) else 0) := by
    refine sI_congr fun c hc => ?_
    by_cases e : endAt q c
    · rw [if_pos e, if_pos e]
      have hl := less_row hrow e
      have f1 := fill_eq hl.1
      rw [hl.2.2, show (q.sum - 1).toNat = n by omega] at f1
      have w1 := way_eq (Q := Q.set k (lessAt q c)) fun p hp => by
        rcases List.mem_or_eq_of_mem_set hp with y | y
        · exact h p y
        · rw [y]; exact hl.1
      rw [sums_set _ hk, ← hq, hl.2.2] at w1
      have hset := hookQ_set (Q := Q) (lessAt q c) hk
      rw [← hq] at hset
      have e5 : ((sumsQ Q).sum - q.sum + (q.sum - 1)).toNat = (sumsQ Q).sum.toNat - 1 := by omega
      rw [e5] at w1
      rw [← f1, ← w1]
      generalize wayQ (Q.set k (lessAt q c)) = W
      generalize fillM (lessAt q c) = F
      generalize hookP (lessAt q c) = B at hset ⊢
      generalize hookQ (Q.set k (lessAt q c)) = D at hset ⊢
      generalize hookQ Q = A at hset ⊢
      generalize hookP q = C at hset ⊢
      have : F * B * (W * A) = F * W * (A * B) := by grind
      rw [this, ← hset]; grind
    · rw [if_neg e, if_neg e]; grind
  rw [sI_mul, sI_mul, fill_rec hrow (by omega)] at key
  have e2 : (sI q.length fun c => (if endAt q c then wayQ (Q.set k (lessAt q c)) else 0) * hookQ Q) = (sI q.length fun c => if endAt q c then wayQ (Q.set k (lessAt q c)) else 0) * hookQ Q := by
    have : (fun c : Nat => (if endAt q c then wayQ (Q.set k (lessAt q c)) else 0) * hookQ Q) = fun c : Nat => hookQ Q * (if endAt q c then wayQ (Q.set k (lessAt q c)) else 0) := by
      funext c; exact Int.mul_comm _ _
    rw [this, sI_mul, Int.mul_comm]
  rw [e2] at key
  rw [key]
  have fe := fill_eq hrow
  rw [hn] at fe
  have g1 : factI (n + 1) = factI n * ((n : Int) + 1) := rfl
  rw [g1] at fe
  rw [hqs, Int.mul_assoc, Int.mul_comm (hookP q), fe]; grind
theorem way_sum {Q : List (List Int)} (h : ∀ q ∈ Q, IsRow q) (hN : 1 ≤ (sumsQ Q).sum) : (sI Q.length fun k => sI (Q.getD k []).length fun c => if endAt (Q.getD k []) c then wayQ (Q.set k (lessAt (Q.getD k []) c)) else 0) = wayQ Q := by
  have p := hookQ_pos h
  refine Int.eq_of_mul_eq_mul_right (Int.ne_of_gt p) ?_
  rw [way_eq h]
  have e : (sI Q.length fun k => hookQ Q * sI (Q.getD k []).length fun c => if endAt (Q.getD k []) c then wayQ (Q.set k (lessAt (Q.getD k []) c)) else 0) = sI Q.length fun k => factI ((sumsQ Q).sum.toNat - 1) * (Q.getD k []).sum := sI_congr fun k hk => by
    rw [Int.mul_comm]; exact way_row h hk
  rw [sI_mul, sI_mul] at e
  rw [Int.mul_comm, e]
  have e2 : (sI Q.length fun k => (Q.getD k []).sum) = (sumsQ Q).sum := by
    clear e p hN h
    induction Q with
    | nil => rfl
    | cons q Q ih => rw [List.length_cons, sI_cons]; show q.sum + sI Q.length _ = (q.sum :: sumsQ Q).sum; rw [List.sum_cons, ← ih]; rfl
  rw [e2]
  obtain ⟨n, hn⟩ : ∃ n : Nat, (sumsQ Q).sum.toNat = n + 1 := ⟨(sumsQ Q).sum.toNat - 1, by omega⟩
  rw [hn, Nat.add_sub_cancel, show (sumsQ Q).sum = (n : Int) + 1 by omega]
  rfl

def mvL (S : List Int) (x t : Int) : List Int := sortI ((x - t) :: S.filter fun y => decide (y ≠ x))
def canMv (S : List Int) (t x : Int) : Prop := 0 ≤ x - t ∧ x - t ∉ S
instance (S : List Int) (t x : Int) : Decidable (canMv S t x) := by unfold canMv; infer_instance
def mvS (S : List Int) (t : Int) (g : Int → Int) : Int := (S.map fun x => if canMv S t x then g x else 0).sum
theorem mvL_mem {S : List Int} {x t y : Int} : y ∈ mvL S x t ↔ (y ∈ S ∧ y ≠ x) ∨ y = x - t := by
  unfold mvL
  rw [mem_sort, List.mem_cons, List.mem_filter, decide_eq_true_eq]
  exact Or.comm
theorem mvL_up {S : List Int} {x t : Int} (hS : Up S) (hf : x - t ∉ S) : Up (mvL S x t) := by
  refine sort_strict (List.nodup_cons.mpr ⟨fun z => hf (List.mem_filter.mp z).1, (up_nodup hS).filter _⟩)
theorem cut_mv {r : List Int} {k L : Nat} {j t : Int} (C : Cut r k L j) (ht : t = r.getD k 0 - j + ((L - (k + 1) : Nat) : Int)) {m : Nat} (hm : r.length ≤ m) :
    canMv (beadsM r m) t (dAt r m k) ∧ beadsM (cutR r k L j) m = mvL (beadsM r m) (dAt r m k) t ∧ cutR r k L j = rowOfM (mvL (beadsM r m) (dAt r m k) t) := by
  have hfx : j + (m : Int) - (L : Int) = dAt r m k - t := by have := C.hk; unfold dAt; omega
  have hL := C.hL
  have hj := C.j0
  have hf : dAt r m k - t ∉ beadsM r m := fun z => by
    obtain ⟨l, hl, e⟩ := (mem_beads hm).mp z
    rw [← hfx] at e
    have := cut_free C m (l := l)
    by_cases q : l < L
    · have := this.1 q; omega
    · have := this.2 (by omega); omega
  have e : beadsM (cutR r k L j) m = mvL (beadsM r m) (dAt r m k) t := by
    refine up_eq (beads_up (cut_row C) (by have := cut_len C; omega)).1 (mvL_up (beads_up C.row hm).1 hf) fun y => ?_
    rw [cut_mem C hm, mvL_mem, hfx]
  refine ⟨⟨by omega, hf⟩, e, ?_⟩
  rw [← e, rowOf_beads (isRow_pos (cut_row C)) (by have := cut_len C; omega)]
theorem line_cut {r : List Int} {t : Int} (hr : IsRow r) {k : Nat} (hk' : k < r.length) (c : t ∈ hookLine r k) : ∃ (L : Nat) (j : Int), Cut r k L j ∧ t = r.getD k 0 - j + ((L - (k + 1) : Nat) : Int) ∧ wrM r (k : Int) (idxI (hookLine r k) t : Int) = (cutR r k L j, ((L - (k + 1) : Nat) : Int)) := by
  have hjl := idx_lt c
  have hja := idx_at c
  obtain ⟨j, hj⟩ : ∃ j : Nat, j = idxI (hookLine r k) t := ⟨_, rfl⟩
  rw [← hj] at hjl hja ⊢
  unfold hookLine at hjl hja
  rw [List.length_map, List.length_range] at hjl
  rw [List.getD_eq_getElem?_getD, List.getElem?_map, List.getElem?_range hjl] at hja
  have hja' : r.getD k 0 - (j : Int) + (linesAt (r.drop (k + 1)) (j : Int) : Int) = t := hja
  have hpw := isRow_pair hr
  have h2 := hook_two hpw hk' (j := (j : Int)) (by omega)
  have hc := cnt_gt hpw (j : Int)
  obtain ⟨L, hL⟩ : ∃ L : Nat, L = linesAt r (j : Int) := ⟨_, rfl⟩
  rw [← hL] at h2 hc
  have hLl : L ≤ r.length := by rw [hL]; exact linesAt_le r _
  have C : Cut r k L (j : Int) := ⟨hr, by omega, by omega, hLl, fun l hl => ((hc l).mp hl).2, by
    by_cases z : L < r.length
    · have : ¬ ((j : Int) < r.getD L 0) := fun q => Nat.lt_irrefl L ((hc L).mpr ⟨z, q⟩)
      omega
    · rw [getD_ge (by omega)]; omega⟩
  refine ⟨L, (j : Int), C, by omega, ?_⟩
  unfold wrM cutR mvM
  rw [← hL, show ((L : Int) - 1 + 1) = (L : Int) by omega, show ((k : Int) + 1) = ((k + 1 : Nat) : Int) by omega, cutI_pre (by omega), cutI_mid (by omega) hLl, cutI_suf hLl]
  congr 1
  omega
theorem can_line {r : List Int} {t : Int} (hr : IsRow r) (h1 : 1 ≤ t) {m k : Nat} (hm : r.length ≤ m) (hk : k < m) (c : canMv (beadsM r m) t (dAt r m k)) : k < r.length ∧ t ∈ hookLine r k := by
  obtain ⟨j, e⟩ := free_is hr hm c.1 c.2
  have hj : (j : Int) < r.getD k 0 := by
    by_cases w : (j : Int) < r.getD k 0
    · exact w
    · have : ¬ k < linesAt r (j : Int) := fun u => w ((lines_iff hr j k).mp u)
      unfold dAt at e; omega
  have hkl : k < r.length := by
    by_cases w : k < r.length
    · exact w
    · rw [getD_ge (by omega)] at hj; omega
  refine ⟨hkl, List.mem_map.mpr ⟨j, List.mem_range.mpr (by omega), ?_⟩⟩
  rw [hook_line hr (m := m) hkl hj]
  omega
theorem sI_more {n : Nat} {f : Nat → Int} : ∀ d : Nat, (∀ i : Nat, n ≤ i → i < n + d → f i = 0) → sI (n + d) f = sI n f
  | 0, _ => rfl
  | d + 1, h => by
    have ih := sI_more (n := n) (f := f) d fun i a b => h i a (by omega)
    rw [← ih]
    unfold sI
    rw [← Nat.add_assoc, List.range_succ, List.map_append, List.sum_append]
    simp only [List.map_cons, List.map_nil, List.sum_cons, List.sum_nil]
    rw [h (n + d) (by omega) (by omega)]; omega
theorem sI_top {r : List Int} {m : Nat} (hm : r.length ≤ m) (f : Int → Int) : sI m (fun k => f (dAt r m k)) = ((beadsM r m).map f).sum := by
  have : ((beadsM r m).map f).sum = ((beadsM r m).reverse.map f).sum := perm_sum ((List.reverse_perm _).symm.map f)
  rw [this, beads_rev hm, List.map_map]
  rfl
theorem lesser_sum {r : List Int} {t : Int} (hr : IsRow r) (h1 : 1 ≤ t) {m : Nat} (hm : r.length ≤ m) (g : List Int → Int) : ((lesserM r t).map fun p => g p.1).sum = mvS (beadsM r m) t fun x => g (rowOfM (mvL (beadsM r m) x t)) := by
  have e1 : ((lesserM r t).map fun p => g p.1).sum = sI r.length fun k => if t ∈ hookLine r k then g (wrM r (k : Int) (idxI (hookLine r k) t : Int)).1 else 0 := by
    unfold lesserM
    rw [List.map_reverse, perm_sum (List.reverse_perm _)]
    have : ∀ n : Nat, ((fL r t n).map fun p => g p.1).sum = sI n fun k => if t ∈ hookLine r k then g (wrM r (k : Int) (idxI (hookLine r k) t : Int)).1 else 0 := fun n => by
      induction n with
      | zero => rfl
      | succ n ih =>
        rw [fL_succ, List.map_append, List.sum_append, ih]
        unfold sI
        rw [List.range_succ, List.map_append, List.sum_append]
        congr 1
        unfold gL
        simp only [List.map_cons, List.map_nil, List.sum_cons, List.sum_nil]
        split
        · simp only [List.map_cons, List.map_nil, List.sum_cons, List.sum_nil]
        · rfl
    exact this r.length
  rw [e1]
  unfold mvS
  rw [← sI_top hm (fun x => if canMv (beadsM r m) t x then g (rowOfM (mvL (beadsM r m) x t)) else 0)]
  have e2 := sI_more (n := r.length) (f := fun k => if canMv (beadsM r m) t (dAt r m k) then g (rowOfM (mvL (beadsM r m) (dAt r m k) t)) else 0) (m - r.length) fun i a b => if_neg fun c => by
    have := (can_line hr h1 hm (by omega) c).1; omega
  rw [show r.length + (m - r.length) = m by omega] at e2
  rw [e2]
  refine sI_congr fun k hk => ?_
  by_cases z : t ∈ hookLine r k
  · obtain ⟨L, j, C, ht, ew⟩ := line_cut hr hk z
    have c := cut_mv C ht hm
    rw [if_pos z, if_pos c.1, ew, ← c.2.2]
  · rw [if_neg z, if_neg fun c => z (can_line hr h1 hm (by omega) c).2]
theorem ends_sum {q : List Int} (hq : IsRow q) {a : Nat} (ha : q.length ≤ a) (g : List Int → Int) : (sI q.length fun c => if endAt q c then g (lessAt q c) else 0) = mvS (beadsM q a) 1 fun h => g (rowOfM (mvL (beadsM q a) h 1)) := by
  unfold mvS
  rw [← sI_top ha (fun x => if canMv (beadsM q a) 1 x then g (rowOfM (mvL (beadsM q a) x 1)) else 0)]
  have e2 := sI_more (n := q.length) (f := fun k => if canMv (beadsM q a) 1 (dAt q a k) then g (rowOfM (mvL (beadsM q a) (dAt q a k) 1)) else 0) (a - q.length) fun i x y => if_neg fun c => by
    have := (can_line hq (Int.le_refl _) ha (by omega) c).1; omega
  rw [show q.length + (a - q.length) = a by omega] at e2
  rw [e2]
  refine sI_congr fun k hk => ?_
  by_cases z : endAt q k
  · have c := cut_mv (t := 1) (end_cut hq z) (by omega) ha
    rw [if_pos z, if_pos c.1, ← c.2.2]
    rfl
  · rw [if_neg z, if_neg]
    intro c
    unfold endAt at z
    have h2 := (row_all hq k).2
    apply c.2
    by_cases w : k + 1 < a
    · refine (mem_beads ha).mpr ⟨k + 1, w, ?_⟩
      unfold dAt; omega
    · have hl := hq.1 k hk
      rw [getD_ge (l := k + 1) (by omega)] at z
      omega
theorem sum_rods {t : Int} (ht : 1 ≤ t) (F : Int → Int) : ∀ l : List Int, (sI t.toNat fun k => ((hOn l t (0 + (k : Int))).map fun h => F (h * t + (k : Int))).sum) = (l.map F).sum
  | [] => by
    have : (sI t.toNat fun k => ((hOn [] t (0 + (k : Int))).map fun h => F (h * t + (k : Int))).sum) = sI t.toNat fun _ => 0 := rfl
    rw [this]
    unfold sI
    rw [sum_map_const, Int.mul_zero]; rfl
  | x :: l => by
    have ih := sum_rods ht F l
    have m0 := Int.emod_nonneg x (b := t) (by omega)
    have m1 := Int.emod_lt_of_pos x (b := t) (by omega)
    have md := Int.emod_add_mul_ediv x t
    have e : ∀ k : Nat, k < t.toNat → ((hOn (x :: l) t (0 + (k : Int))).map fun h => F (h * t + (k : Int))).sum = (if (x % t).toNat = k then F x else 0) + ((hOn l t (0 + (k : Int))).map fun h => F (h * t + (k : Int))).sum := fun k hk => by
      unfold hOn
      rw [List.filter_cons]
      by_cases z : x % t = 0 + (k : Int)
      · rw [if_pos (decide_eq_true z), if_pos (by omega), List.map_cons, List.map_cons, List.sum_cons]
        congr 2
        rw [Int.mul_comm]; omega
      · rw [if_neg (by simpa using z), if_neg (by omega)]; omega
    rw [sI_congr e, sI_add, ih, List.map_cons, List.sum_cons]
    congr 1
    unfold sI
    rw [sumR_pick (F x) (x % t).toNat t.toNat, if_pos (by omega)]
theorem mvS_rods {S : List Int} {t : Int} (ht : 1 ≤ t) (g : Int → Int) : mvS S t g = sI t.toNat fun k => mvS (hOn S t (0 + (k : Int))) 1 fun h => g (h * t + (k : Int)) := by
  unfold mvS
  rw [← sum_rods ht (fun x => if canMv S t x then g x else 0) S]
  refine sI_congr fun k hk => ?_
  congr 1
  refine List.map_congr_left fun h _ => ?_
  have : canMv S t (h * t + (k : Int)) ↔ canMv (hOn S t (0 + (k : Int))) 1 h := by
    unfold canMv
    rw [mem_hOn ht (by omega) (by omega), show (h - 1) * t + (0 + (k : Int)) = h * t + (k : Int) - t by grind]
    have : 0 ≤ h * t + (k : Int) - t ↔ 0 ≤ h - 1 := by
      have e : h * t + (k : Int) - t = (h - 1) * t + (k : Int) := by grind
      rw [e]
      constructor
      · intro a
        by_cases z : 0 ≤ h - 1
        · exact z
        · have := Int.mul_le_mul_of_nonneg_right (show h - 1 ≤ -1 by omega) (show 0 ≤ t by omega)
          omega
      · intro a
        have := Int.mul_nonneg a (show 0 ≤ t by omega)
        omega
    rw [this]
  by_cases z : canMv S t (h * t + (k : Int))
  · rw [if_pos z, if_pos (this.mp z)]
  · rw [if_neg z, if_neg fun y => z (this.mpr y)]
theorem quot_any {r : List Int} {t s : Int} (hr : IsRow r) (ht : 1 ≤ t) (hs : shareM r t ≤ s) {k : Nat} (hk : k < t.toNat) : (quotM r t).getD k [] = rowOfM (hOn (beadsM r (s * t).toNat) t (0 + (k : Int))) := by
  have b := share_mul r ht
  have hd : (s * t).toNat - (shareM r t * t).toNat = ((s - shareM r t) * t).toNat := by
    have e : (s - shareM r t) * t = s * t - shareM r t * t := by grind
    rw [e]; omega
  have hm : (shareM r t * t).toNat ≤ (s * t).toNat := by
    have := Int.mul_le_mul_of_nonneg_right hs (show 0 ≤ t by omega)
    omega
  have hb := beads_up (m := (shareM r t * t).toNat) hr (by omega)
  rw [quot_at hk, parted_at hk, beads_shift (r := r) (m := (shareM r t * t).toNat) (n := (s * t).toNat) (by omega) hm, hd, hOn_shiftL ht (by omega) hb.1 hb.2 (by omega), rowOf_shift]
theorem quot_mv {r r' : List Int} {t : Int} (hr : IsRow r) (hr' : IsRow r') (ht : 1 ≤ t) (hl : r'.length ≤ r.length) {k : Nat} (hk : k < t.toNat) {h : Int} (hc : canMv (beadsM r (shareM r t * t).toNat) t (h * t + (k : Int)))
    (e : beadsM r' (shareM r t * t).toNat = mvL (beadsM r (shareM r t * t).toNat) (h * t + (k : Int)) t) :
    quotM r' t = (quotM r t).set k (rowOfM (mvL (hOn (beadsM r (shareM r t * t).toNat) t (0 + (k : Int))) h 1)) := by
  have hb := share_mul r ht
  obtain ⟨S, hS⟩ : ∃ S, S = beadsM r (shareM r t * t).toNat := ⟨_, rfl⟩
  have uS : Up S := by rw [hS]; exact (beads_up hr (by omega)).1
  rw [← hS] at e hc ⊢
  refine List.ext_getElem (by rw [List.length_set, quot_len, quot_len]) fun i h1 h2 => ?_
  have h1' := h1
  rw [quot_len] at h1'
  have e1 : (quotM r' t)[i]'h1 = (quotM r' t).getD i [] := by rw [List.getD_eq_getElem?_getD, List.getElem?_eq_getElem h1]; rfl
  rw [e1, quot_any hr' ht (share_mono ht hl) h1', e, List.getElem_set]
  have uM := mvL_up (x := h * t + (k : Int)) (t := t) uS hc.2
  by_cases z : k = i
  · subst z
    rw [if_pos rfl]
    congr 1
    have hf : h - 1 ∉ hOn S t (0 + (k : Int)) := fun y => by
      rw [mem_hOn ht (by omega) (by omega)] at y
      apply hc.2
      rw [show h * t + (k : Int) - t = (h - 1) * t + (0 + (k : Int)) by grind]
      exact y
    refine up_eq (hOn_up ht uM) (mvL_up (hOn_up ht uS) hf) fun y => ?_
    rw [mem_hOn ht (by omega) (by omega), mvL_mem, mvL_mem, mem_hOn ht (by omega) (by omega)]
    have a1 : y * t + (0 + (k : Int)) = h * t + (k : Int) ↔ y = h := by
      constructor
      · intro q
        exact Int.eq_of_mul_eq_mul_right (show t ≠ 0 by omega) (by omega)
      · rintro rfl; omega
    have a2 : y * t + (0 + (k : Int)) = h * t + (k : Int) - t ↔ y = h - 1 := by
      constructor
      · intro q
        exact Int.eq_of_mul_eq_mul_right (show t ≠ 0 by omega) (by rw [Int.sub_mul]; omega)
      · rintro rfl; grind
    rw [a2, Ne, a1]
  · rw [if_neg z]
    have e3 : (quotM r t)[i]'(by rw [quot_len]; exact h1') = (quotM r t).getD i [] := by rw [List.getD_eq_getElem?_getD, List.getElem?_eq_getElem (by rw [quot_len]; exact h1')]; rfl
    rw [e3, quot_any hr ht (Int.le_refl _) h1', ← hS]
    congr 1
    refine up_eq (hOn_up ht uM) (hOn_up ht uS) fun y => ?_
    rw [mem_hOn ht (by omega) (by omega), mvL_mem, mem_hOn ht (by omega) (by omega)]
    have b1 : y * t + (0 + (i : Int)) ≠ h * t + (k : Int) := fun q => by
      have m1 := hk_mod (t := t) (h := y) (k := (i : Int)) (by omega) (by omega)
      have m2 := hk_mod (t := t) (h := h) (k := (k : Int)) (by omega) (by omega)
      rw [Int.zero_add] at q
      rw [q] at m1
      omega
    have b2 : y * t + (0 + (i : Int)) ≠ h * t + (k : Int) - t := fun q => by
      have m1 := hk_mod (t := t) (h := y) (k := (i : Int)) (by omega) (by omega)
      have m2 := hk_mod (t := t) (h := h - 1) (k := (k : Int)) (by omega) (by omega)
      rw [Int.zero_add, show h * t + (k : Int) - t = (h - 1) * t + (k : Int) by grind] at q
      rw [q] at m1
      omega
    exact ⟨fun q => Or.elim q (fun q => q.1) (fun q => absurd q b2), fun q => .inl ⟨q, b1⟩⟩
theorem way_rec {r : List Int} {t : Int} (hr : IsRow r) (h1 : 1 ≤ t) (hne : lesserM r t ≠ []) : ((lesserM r t).map fun p => wayM p.1 t).sum = wayM r t := by
  have hb := share_mul r h1
  obtain ⟨m, hm⟩ : ∃ m : Nat, m = (shareM r t * t).toNat := ⟨_, rfl⟩
  have hml : r.length ≤ m := by omega
  have hQ : ∀ q ∈ quotM r t, IsRow q := fun q hq => by
    obtain ⟨k, hk, e⟩ := List.getElem_of_mem hq
    have := quot_row hr h1 (k := k) (by rw [quot_len] at hk; exact hk)
    rw [List.getD_eq_getElem?_getD, List.getElem?_eq_getElem hk] at this
    rw [← e]; exact this
  have hN : 1 ≤ (sumsQ (quotM r t)).sum := by
    by_cases z : 1 ≤ (sumsQ (quotM r t)).sum
    · exact z
    · exfalso
      have size := size_split hr h1
      have hz : (sumsQ (quotM r t)).sum = ((quotM r t).map fun q => q.sum).sum := rfl
      have hnn : 0 ≤ (sumsQ (quotM r t)).sum := nn_sum fun x hx => by
        obtain ⟨q, hq, rfl⟩ := List.mem_map.mp hx
        have := row_head (hQ q hq)
        omega
      have h0 : ((quotM r t).map fun q => q.sum).sum = 0 := by omega
      cases hl : lesserM r t with
      | nil => exact hne hl
      | cons p l =>
        obtain ⟨legs, _, _, R⟩ := rim_of hr (p := p) (by rw [hl]; exact List.mem_cons_self ..)
        have c1 := core_le R.row h1
        rw [R.core, R.sum] at c1
        rw [h0, Int.mul_zero] at size
        omega
  rw [lesser_sum hr h1 hml (fun q => wayM q t), hm, mvS_rods h1]
  unfold wayM
  rw [← way_sum hQ hN, quot_len]
  refine sI_congr fun k hk => ?_
  have qr := quot_row hr h1 hk
  have qb := quot_beads hr h1 hk
  have qs := quot_short (r := r) hk
  rw [parted_at hk] at qb
  rw [ends_sum qr (a := (shareM r t + (chargesM r t).getD k 0).toNat) (by omega) (fun q => wayQ ((quotM r t).set k q)), qb]
  unfold mvS
  congr 1
  refine List.map_congr_left fun h hh => ?_
  by_cases c : canMv (hOn (beadsM r (shareM r t * t).toNat) t (0 + (k : Int))) 1 h
  · rw [if_pos c, if_pos c]
    show wayQ (quotM (rowOfM (mvL (beadsM r (shareM r t * t).toNat) (h * t + (k : Int)) t)) t) = wayQ ((quotM r t).set k (rowOfM (mvL (hOn (beadsM r (shareM r t * t).toNat) t (0 + (k : Int))) h 1)))
    congr 1
    have hx : h * t + (k : Int) ∈ beadsM r (shareM r t * t).toNat := by
      have := (mem_hOn h1 (by omega) (by omega)).mp hh
      rw [Int.zero_add] at this; exact this
    have cm : canMv (beadsM r (shareM r t * t).toNat) t (h * t + (k : Int)) := by
      refine ⟨?_, fun y => c.2 ((mem_hOn h1 (by omega) (by omega)).mpr (by rw [show (h - 1) * t + (0 + (k : Int)) = h * t + (k : Int) - t by grind]; exact y))⟩
      have := Int.mul_nonneg c.1 (show 0 ≤ t by omega)
      have e : h * t + (k : Int) - t = (h - 1) * t + (k : Int) := by grind
      omega
    obtain ⟨l, hl, e⟩ := (mem_beads (by omega)).mp hx
    rw [e] at cm
    obtain ⟨hlr, hin⟩ := can_line hr h1 (by omega) hl cm
    obtain ⟨L, j, C, ht, _⟩ := line_cut hr hlr hin
    have v := cut_mv C ht (m := (shareM r t * t).toNat) (by omega)
    rw [← e] at v cm
    rw [← v.2.2]
    exact quot_mv hr (cut_row C) h1 (cut_len C) hk cm v.2.1
  · rw [if_neg c, if_neg c]
theorem way_none {r : List Int} {t : Int} (hr : IsRow r) (h1 : 1 ≤ t) (h : lesserM r t = []) : wayM r t = 1 := by
  have hq := quot_core hr h1 (lesser_nil hr h1 h)
  have hQ : ∀ q ∈ quotM r t, IsRow q := fun q hm => by
    rw [hq] at hm
    rw [List.eq_of_mem_replicate (n := t.toNat) hm]
    exact isRow_nil
  have e := way_eq hQ
  have h2 : ∀ n : Nat, hookQ (empties n) = 1 ∧ (sumsQ (empties n)).sum = 0 := fun n => by
    induction n with
    | zero => exact ⟨rfl, rfl⟩
    | succ n ih =>
      have e1 : empties (n + 1) = [] :: empties n := rfl
      rw [e1]
      refine ⟨?_, ?_⟩
      · show hookP [] * hookQ (empties n) = 1
        rw [ih.1]; rfl
      · show (([] : List Int).sum :: sumsQ (empties n)).sum = 0
        rw [List.sum_cons, ih.2]; rfl
  rw [hq] at e
  rw [(h2 t.toNat).1, (h2 t.toNat).2] at e
  unfold wayM
  rw [hq]
  have : factI (0 : Int).toNat = 1 := rfl
  rw [this] at e
  omega

theorem fact_small : ∀ n : Nat, n < 61 → factI n < 2 ^ 273 := by decide +kernel
theorem prodL_snoc (l : List Int) (x : Int) : prodL (l ++ [x]) = prodL l * x := by
  rw [prodL_append]; show prodL l * (x * 1) = prodL l * x; rw [Int.mul_one]
theorem fill_bd {r : List Int} (hr : IsRow r) (h : r.sum ≤ 60) : 0 < fillM r ∧ fillM r < 2 ^ 273 ∧ 0 < hookP r ∧ hookP r < 2 ^ 273 := by
  have e := fill_eq hr
  have p := hookP_pos hr
  have f0 := fact_pos r.sum.toNat
  have f1 := fact_small r.sum.toNat (by omega)
  rw [← e] at f0 f1
  have p1 : 0 < fillM r := by
    by_cases z : 0 < fillM r
    · exact z
    · have := Int.mul_le_mul_of_nonneg_right (show fillM r ≤ 0 by omega) (show 0 ≤ hookP r by omega)
      omega
  have a := Int.mul_le_mul_of_nonneg_left (show 1 ≤ hookP r by omega) (show 0 ≤ fillM r by omega)
  have b := Int.mul_le_mul_of_nonneg_right (show 1 ≤ fillM r by omega) (show 0 ≤ hookP r by omega)
  rw [Int.mul_one] at a
  rw [Int.one_mul] at b
  exact ⟨p1, Int.lt_of_le_of_lt a f1, p, Int.lt_of_le_of_lt b f1⟩
theorem prod_ge1 : ∀ {l : List Int}, (∀ x ∈ l, 1 ≤ x) → 1 ≤ prodL l
  | [], _ => Int.le_refl _
  | x :: l, h => by
    have a := prod_ge1 (l := l) fun y hy => h y (List.mem_cons_of_mem _ hy)
    have b := Int.mul_le_mul_of_nonneg_right (h x (List.mem_cons_self ..)) (show 0 ≤ prodL l by omega)
    rw [Int.one_mul] at b
    show 1 ≤ x * prodL l
    omega
theorem mix_bd {l : List Int} (h : ∀ x ∈ l, 0 ≤ x) (hs : l.sum ≤ 60) : 0 < mixM l ∧ mixM l < 2 ^ 273 := by
  have e := mix_eq h
  have hn := (fact_all h).1
  have f0 := fact_pos l.sum.toNat
  have f1 := fact_small l.sum.toNat (by omega)
  have p : 1 ≤ prodL (l.map fun x => factI x.toNat) := prod_ge1 fun y hy => by
    obtain ⟨x, _, rfl⟩ := List.mem_map.mp hy
    have := fact_pos x.toNat; omega
  rw [← e] at f0 f1
  have p1 : 0 < mixM l := by
    by_cases z : 0 < mixM l
    · exact z
    · have := Int.mul_le_mul_of_nonneg_right (show mixM l ≤ 0 by omega) (show 0 ≤ prodL (l.map fun x => factI x.toNat) by omega)
      omega
  have a := Int.mul_le_mul_of_nonneg_left p (show 0 ≤ mixM l by omega)
  rw [Int.mul_one] at a
  exact ⟨p1, Int.lt_of_le_of_lt a f1⟩
theorem abs_lt {x : Int} {k : Nat} (h0 : 0 ≤ x) (h : x < 2 ^ k) : x.natAbs < 2 ^ k := by
  have e : ((2 ^ k : Nat) : Int) = (2 : Int) ^ k := by rw [Int.natCast_pow]; rfl
  rw [← e] at h
  omega
theorem abs_mul {x y : Int} {a b : Nat} (h1 : x.natAbs < 2 ^ a) (h2 : y.natAbs < 2 ^ b) : (x * y).natAbs < 2 ^ (a + b) := by
  rw [Int.natAbs_mul, Nat.pow_add]
  exact Nat.mul_lt_mul_of_lt_of_le h1 (Nat.le_of_lt h2) (Nat.pow_pos (by decide))
theorem pow_le2 {n a b : Nat} (h : n < 2 ^ a) (hab : a ≤ b) : n < 2 ^ b := Nat.lt_of_lt_of_le h (Nat.pow_le_pow_right (by decide) hab)
theorem way_bd {Q : List (List Int)} (h : ∀ q ∈ Q, IsRow q ∧ q.sum ≤ 60) {c : Int} (hc : c.natAbs < 2 ^ 273) : ∀ j : Nat, ((Q.take j).foldl (fun w q => w * fillM q) c).natAbs < 2 ^ (273 + 273 * j)
  | 0 => hc
  | j + 1 => by
    have ih := way_bd h hc j
    by_cases z : j < Q.length
    · rw [List.take_succ_eq_append_getElem z, List.foldl_append]
      have hq := h Q[j] (List.getElem_mem z)
      have b := fill_bd hq.1 hq.2
      have := abs_mul ih (abs_lt (k := 273) (by omega) b.2.1)
      rw [show 273 + 273 * (j + 1) = 273 + 273 * j + 273 by omega]
      exact this
    · rw [List.take_of_length_le (by omega)] at ih ⊢
      exact pow_le2 ih (by omega)
theorem quot_one {r : List Int} (hr : IsRow r) : quotM r 1 = [r] := by
  have e : (quotM r 1).getD 0 [] = r := by
    have hs : shareM r 1 = (r.length : Int) := by unfold shareM; rw [Int.ediv_one]; omega
    rw [quot_any hr (Int.le_refl _) (Int.le_refl _) (by decide), hs, Int.mul_one, Int.toNat_natCast]
    have : hOn (beadsM r r.length) 1 (0 + ((0 : Nat) : Int)) = beadsM r r.length := by
      unfold hOn
      have e1 : (beadsM r r.length).filter (fun p => decide (p % 1 = 0 + ((0 : Nat) : Int))) = beadsM r r.length := List.filter_eq_self.mpr fun x _ => decide_eq_true (by rw [Int.emod_one]; rfl)
      rw [e1]
      have e2 : (fun p : Int => p / 1) = id := funext fun p => Int.ediv_one p
      rw [e2, List.map_id]
    rw [this, rowOf_beads (isRow_pos hr) (Nat.le_refl _)]
  have l := quot_len r 1
  match hq : quotM r 1 with
  | [] => rw [hq] at l; cases l
  | [q] => rw [hq] at e; have e' : q = r := e; rw [e']
  | q :: q' :: L => rw [hq, List.length_cons, List.length_cons] at l; have : (1 : Int).toNat = 1 := rfl; rw [this] at l; omega
theorem way_one {r : List Int} (hr : IsRow r) : wayM r 1 = fillM r := by
  unfold wayM
  rw [quot_one hr]
  have e := way_eq (Q := [r]) fun q hq => by rw [List.mem_singleton.mp hq]; exact hr
  have e1 : hookQ [r] = hookP r := by show hookP r * 1 = hookP r; omega
  have e2 : (sumsQ [r]).sum = r.sum := by show r.sum + 0 = r.sum; omega
  rw [e1, e2, ← fill_eq hr] at e
  have p := hookP_pos hr
  exact Int.eq_of_mul_eq_mul_right (by omega) e
def spProd : Sp := fun vs H Q _ => ∃ n : Int, vs = [.int n] ∧ 0 ≤ n ∧ n ≤ 1000 ∧ Q (.int (factI n.toNat)) H
def spFill (K : PySem.W.Frag) : Sp := fun vs H Q _ => ∃ (a : Addr) (r : List Int), vs = [.ref a] ∧ SqL K H a (r.map V.int) ∧ IsRow r ∧ r.sum ≤ 60 ∧ ∀ H' : Hp, Same H H' → Q (.int (fillM r)) H'
def spMixes (K : PySem.W.Frag) : Sp := fun vs H Q _ => ∃ (a : Addr) (l : List Int), vs = [.ref a] ∧ SqL K H a (l.map V.int) ∧ l.length ≤ 100 ∧ (∀ x ∈ l, 0 ≤ x ∧ x ≤ 60) ∧ l.sum ≤ 60 ∧ Q (.int (mixM l)) H
def spWaysX (K : PySem.W.Frag) (C : Addr) : Sp := fun vs H Q E => ∃ (a : Addr) (r : List Int) (t : Int), vs = [.ref a, .int t] ∧ SqL K H a (r.map V.int) ∧ IsRow r ∧ r.sum ≤ 60 ∧ (BadRods t → E (.ref C) none H) ∧
  (1 ≤ t → t ≤ 8 → ∀ H' : Hp, Same H H' → Q (.int (wayM r t)) H')
def spWays (K : PySem.W.Frag) : Sp := fun vs H Q E => ∃ (a : Addr) (r : List Int) (t : Int), vs = [.ref a, .int t] ∧ SqL K H a (r.map V.int) ∧ IsRow r ∧ r.sum ≤ 60 ∧ 1 ≤ t ∧ t ≤ 8 ∧ ∀ H' : Hp, Same H H' → Q (.int (wayM r t)) H'
def spRefused16 (K : PySem.W.Frag) : Sp := fun vs H Q E => ∃ (a : Addr) (r : List Int) (t : Int), vs = [.ref a, .int t] ∧ SqL K H a (r.map V.int) ∧ IsRow r ∧ r.sum ≤ 60 ∧ BadRods t ∧ ∀ H' : Hp, Same H H' → Q (.bl true) H'
theorem getD_memT {L : List (List Int × Int)} {k : Nat} (h : k < L.length) : L.getD k ([], 0) ∈ L := by
  rw [List.getD_eq_getElem?_getD, List.getElem?_eq_getElem h]
  exact List.getElem_mem h
theorem lesser_few (r : List Int) (t : Int) : (lesserM r t).length ≤ r.length := by
  unfold lesserM
  rw [List.length_reverse]
  exact fL_len r t r.length

structure Tx (K : PySem.W.Frag) (mg : Str → Option Value) (f_beads : Addr) (d_beads : FuncData) (f_row_of : Addr) (d_row_of : FuncData) (f_check_places : Addr) (d_check_places : FuncData) (f_quotient : Addr) (d_quotient : FuncData) (f_check_rods : Addr) (d_check_rods : FuncData) (f_share : Addr) (d_share : FuncData) (f_parted : Addr) (d_parted : FuncData) (f_heights_on : Addr) (d_heights_on : FuncData) (f_turned : Addr) (d_turned : FuncData) (f_lines_at : Addr) (d_lines_at : FuncData) (f_hooks : Addr) (d_hooks : FuncData) (f_line_hooks : Addr) (d_line_hooks : FuncData) (f_fillings : Addr) (d_fillings : FuncData) (f_product_to : Addr) (d_product_to : FuncData) (f_lesser : Addr) (d_lesser : FuncData) (f_without_rim : Addr) (d_without_rim : FuncData) (f_ways_down : Addr) (d_ways_down : FuncData) (f_mixes : Addr) (d_mixes : FuncData) (f_ldrawn : Addr) (d_ldrawn : FuncData) (f_lwhole : Addr) (d_lwhole : FuncData) (f_lrow_by : Addr) (d_lrow_by : FuncData) (f_lrefused : Addr) (d_lrefused : FuncData) (c_BeadError : Addr) (c_NoRods : Addr) : Prop where
  F_beads : Fun K "beads" "beads" s_beads f_beads d_beads
  m_beads : mg "beads" = some (.ref f_beads)
  b_beads : Binds K d_beads ["row", "many"] []
  F_row_of : Fun K "row_of" "row_of" s_row_of f_row_of d_row_of
  m_row_of : mg "row_of" = some (.ref f_row_of)
  b_row_of : Binds K d_row_of ["places"] []
  F_check_places : Fun K "check_places" "check_places" s_check_places f_check_places d_check_places
  m_check_places : mg "check_places" = some (.ref f_check_places)
  b_check_places : Binds K d_check_places ["places"] []
  F_quotient : Fun K "quotient" "quotient" s_quotient f_quotient d_quotient
  m_quotient : mg "quotient" = some (.ref f_quotient)
  b_quotient : Binds K d_quotient ["row", "rods"] []
  F_check_rods : Fun K "check_rods" "check_rods" s_check_rods f_check_rods d_check_rods
  m_check_rods : mg "check_rods" = some (.ref f_check_rods)
  b_check_rods : Binds K d_check_rods ["rods"] []
  F_share : Fun K "share" "share" s_share f_share d_share
  m_share : mg "share" = some (.ref f_share)
  b_share : Binds K d_share ["row", "rods"] []
  F_parted : Fun K "parted" "parted" s_parted f_parted d_parted
  m_parted : mg "parted" = some (.ref f_parted)
  b_parted : Binds K d_parted ["row", "rods"] []
  F_heights_on : Fun K "heights_on" "heights_on" s_heights_on f_heights_on d_heights_on
  m_heights_on : mg "heights_on" = some (.ref f_heights_on)
  b_heights_on : Binds K d_heights_on ["places", "rods", "rod"] []
  F_turned : Fun K "turned" "turned" s_turned f_turned d_turned
  m_turned : mg "turned" = some (.ref f_turned)
  b_turned : Binds K d_turned ["row"] []
  F_lines_at : Fun K "lines_at" "lines_at" s_lines_at f_lines_at d_lines_at
  m_lines_at : mg "lines_at" = some (.ref f_lines_at)
  b_lines_at : Binds K d_lines_at ["row", "place"] []
  F_hooks : Fun K "hooks" "hooks" s_hooks f_hooks d_hooks
  m_hooks : mg "hooks" = some (.ref f_hooks)
  b_hooks : Binds K d_hooks ["row"] []
  F_line_hooks : Fun K "line_hooks" "line_hooks" s_line_hooks f_line_hooks d_line_hooks
  m_line_hooks : mg "line_hooks" = some (.ref f_line_hooks)
  b_line_hooks : Binds K d_line_hooks ["row", "columns", "line"] []
  F_fillings : Fun K "fillings" "fillings" s_fillings f_fillings d_fillings
  m_fillings : mg "fillings" = some (.ref f_fillings)
  b_fillings : Binds K d_fillings ["row"] []
  F_product_to : Fun K "product_to" "product_to" s_product_to f_product_to d_product_to
  m_product_to : mg "product_to" = some (.ref f_product_to)
  b_product_to : Binds K d_product_to ["number"] []
  F_lesser : Fun K "lesser" "lesser" s_lesser f_lesser d_lesser
  m_lesser : mg "lesser" = some (.ref f_lesser)
  b_lesser : Binds K d_lesser ["row", "rods"] []
  F_without_rim : Fun K "without_rim" "without_rim" s_without_rim f_without_rim d_without_rim
  m_without_rim : mg "without_rim" = some (.ref f_without_rim)
  b_without_rim : Binds K d_without_rim ["row", "line", "place"] []
  F_ways_down : Fun K "ways_down" "ways_down" s_ways_down f_ways_down d_ways_down
  m_ways_down : mg "ways_down" = some (.ref f_ways_down)
  b_ways_down : Binds K d_ways_down ["row", "rods"] []
  F_mixes : Fun K "mixes" "mixes" s_mixes f_mixes d_mixes
  m_mixes : mg "mixes" = some (.ref f_mixes)
  b_mixes : Binds K d_mixes ["sizes"] []
  F_ldrawn : Fun K "_law_drawn" "_law_drawn" s_ldrawn f_ldrawn d_ldrawn
  m_ldrawn : mg "_law_drawn" = some (.ref f_ldrawn)
  b_ldrawn : Binds K d_ldrawn ["script", "k", "many"] []
  F_lwhole : Fun K "_law_whole" "_law_whole" s_lwhole f_lwhole d_lwhole
  m_lwhole : mg "_law_whole" = some (.ref f_lwhole)
  b_lwhole : Binds K d_lwhole ["found"] []
  F_lrow_by : Fun K "_law_row_by" "_law_row_by" s_lrow_by f_lrow_by d_lrow_by
  m_lrow_by : mg "_law_row_by" = some (.ref f_lrow_by)
  b_lrow_by : Binds K d_lrow_by ["script", "base", "most"] []
  F_lrefused : Fun K "_law_refused" "_law_refused" s_lrefused f_lrefused d_lrefused
  m_lrefused : mg "_law_refused" = some (.ref f_lrefused)
  b_lrefused : Binds K d_lrefused ["row", "rods"] []
  z_bool : mg "bool" = none
  z_enumerate : mg "enumerate" = none
  z_int : mg "int" = none
  z_isinstance : mg "isinstance" = none
  z_len : mg "len" = none
  z_list : mg "list" = none
  z_max : mg "max" = none
  z_min : mg "min" = none
  z_range : mg "range" = none
  z_reversed : mg "reversed" = none
  z_sum : mg "sum" = none
  C_BeadError : mg "BeadError" = some (.ref c_BeadError)
  C_NoRods : mg "NoRods" = some (.ref c_NoRods)
  x_NoRods : PySem.W.excIn K c_NoRods bmV "ValueError.__new__" = true
  K_NoRods : ExcK K c_NoRods
  v_NoRods : PySem.W.kitOne K (.ref c_NoRods) (.type "ValueError") = some true
  e_NoRods_NoRods : PySem.W.exmOne K (.ref c_NoRods) (.ref c_NoRods) = some true
  i_NoRods_BeadError : PySem.W.kitOne K (.ref c_NoRods) (.ref c_BeadError) = some true
section
variable {P : Program} {w : World} {K : PySem.W.Frag} {mg : Str → Option Value} {base : Heap} {f_beads f_row_of f_check_places f_quotient f_check_rods f_share f_parted f_heights_on f_turned f_lines_at f_hooks f_line_hooks f_fillings f_product_to f_lesser f_without_rim f_ways_down f_mixes f_ldrawn f_lwhole f_lrow_by f_lrefused : Addr} {d_beads d_row_of d_check_places d_quotient d_check_rods d_share d_parted d_heights_on d_turned d_lines_at d_hooks d_line_hooks d_fillings d_product_to d_lesser d_without_rim d_ways_down d_mixes d_ldrawn d_lwhole d_lrow_by d_lrefused : FuncData} {c_BeadError c_NoRods : Addr}
theorem ok_ldrawn (T : Tx K mg f_beads d_beads f_row_of d_row_of f_check_places d_check_places f_quotient d_quotient f_check_rods d_check_rods f_share d_share f_parted d_parted f_heights_on d_heights_on f_turned d_turned f_lines_at d_lines_at f_hooks d_hooks f_line_hooks d_line_hooks f_fillings d_fillings f_product_to d_product_to f_lesser d_lesser f_without_rim d_without_rim f_ways_down d_ways_down f_mixes d_mixes f_ldrawn d_ldrawn f_lwhole d_lwhole f_lrow_by d_lrow_by f_lrefused d_lrefused c_BeadError c_NoRods) : FnOk P w K mg base CX0 1 f_ldrawn d_ldrawn ["script", "k", "many"] (spDrawn K) := by
  refine T.F_ldrawn.ok sc_ldrawn (fun vs H Q E h => ?_) (fun cdv A outer s H vs Q E hr h => ?_)
  · obtain ⟨a, ns, k, m, rfl, _⟩ := h
    rfl
  obtain ⟨a, ns, k, m, rfl, hS, h63, h0, h1, hm, q⟩ := h
  refine ⟨_, (pss_cons (ps_set (i := 3) sc_ldrawn.nd rfl (Or.inl rfl) pe_int)
      (pss_cons (ps_mid (ps_if (pt_cmpR op_gt (pe_callB call_len_seq rfl T.z_len PySem.boot_len (pa_cons (pv 0) pa_nil)) pe_int (nomark _)) (pss_one (ps_set (i := 3) sc_ldrawn.nd rfl (Or.inl rfl) (pe_ix ix_list (pv 0) (pe_op op_mod (pv 1) (pe_callB call_len_seq rfl T.z_len PySem.boot_len (pa_cons (pv 0) pa_nil))) (fun _ _ => rfl)))) pss_nil))
      (pss_cons (ps_set (i := 4) sc_ldrawn.nd rfl (Or.inl rfl) (pe_op op_add (pe_op op_add (pe_op op_mul (pv 3) (pe_op op_add pe_int (pe_op op_mul pe_int (pe_op op_mod (pv 1) pe_int)))) (pe_op op_mul (pe_op op_mul (pe_op op_add (pv 1) pe_int) (pe_op op_add (pv 1) pe_int)) pe_int)) (pe_callB call_len_seq rfl T.z_len PySem.boot_len (pa_cons (pv 0) pa_nil))))
      (pss_one (ps_ret (pe_op op_mod (pe_op op_fdiv (pe_op op_mod (pv 4) pe_int) pe_int) (pv 2))))))), ?_⟩
  have hl : (ns.map V.int).length = ns.length := List.length_map _
  have fin : ∀ z : Int, Q (.int (z % 2147483647 / 16 % m)) H := fun z => q _ (Int.emod_nonneg _ (by omega)) (Int.emod_lt_of_pos _ hm)
  have k97 : 0 ≤ k % 97 ∧ k % 97 < 97 := ⟨Int.emod_nonneg _ (by decide), Int.emod_lt_of_pos _ (by decide)⟩
  refine ⟨fun σ H' => ∃ c : Int, σ = [some (.ref a), some (.int k), some (.int m), some (.int c), none] ∧ H' = H, ?_, ?_⟩
  · refine ⟨_, rfl, a, _, rfl, .inl hS, _, _, rfl, rfl, _, rfl, ?_⟩
    refine ite2 (fun c => ?_) (fun c => ?_)
    · have c' : (0 : Int) < (((ns.map V.int).length : Nat) : Int) := of_decide_eq_true c
      have c2 : (0 : Int) < (ns.length : Int) := by rw [hl] at c'; exact c'
      have hv := at_int (ns := ns) (i := k % (((ns.map V.int).length : Nat) : Int)) (Int.emod_nonneg _ (by omega)) (by rw [hl]; exact Int.emod_lt_of_pos _ c2)
      exact ⟨_, rfl, _, rfl, _, rfl, a, _, rfl, .inl hS, _, _, rfl, rfl, c', a, _, _, _, rfl, rfl, hS, hv, _, rfl, rfl⟩
    · exact ⟨7, rfl, rfl⟩
  · rintro σ H' ⟨c, rfl, rfl⟩
    refine ⟨_, rfl, _, rfl, _, _, rfl, rfl, (by show (0 : Int) < 97; decide), _, _, rfl, rfl, .inl ⟨by decide, by decide⟩, _, _, rfl, rfl, _, _, rfl, rfl, .inr ⟨by omega, by omega⟩, _, rfl, _, _, rfl, rfl, _, rfl, _, _, rfl, rfl, _, _, rfl, rfl, .inl ⟨by omega, by omega⟩, _, _, rfl, rfl, .inr ⟨by decide, by decide⟩, _, _, rfl, rfl, _, rfl, a, _, rfl, .inl hS, _, _, rfl, rfl, ?_⟩
    exact ⟨_, rfl, _, _, rfl, rfl, (by show (0 : Int) < 2147483647; decide), _, _, rfl, rfl, ⟨by decide, by decide⟩, _, rfl, _, _, rfl, rfl, hm, fin _⟩


theorem ok_lrow_by (T : Tx K mg f_beads d_beads f_row_of d_row_of f_check_places d_check_places f_quotient d_quotient f_check_rods d_check_rods f_share d_share f_parted d_parted f_heights_on d_heights_on f_turned d_turned f_lines_at d_lines_at f_hooks d_hooks f_line_hooks d_line_hooks f_fillings d_fillings f_product_to d_product_to f_lesser d_lesser f_without_rim d_without_rim f_ways_down d_ways_down f_mixes d_mixes f_ldrawn d_ldrawn f_lwhole d_lwhole f_lrow_by d_lrow_by f_lrefused d_lrefused c_BeadError c_NoRods) : FnOk P w K mg base CX0 2 f_lrow_by d_lrow_by ["script", "base", "most"] (spRowBy K) := by
  have G_ldrawn : FnOk P w K mg base CX0 1 f_ldrawn d_ldrawn ["script", "k", "many"] (spDrawn K) := ok_ldrawn T
  refine T.F_lrow_by.ok sc_lrow_by (fun vs H Q E h => ?_) (fun cdv A outer s H vs Q E hr h => ?_)
  · obtain ⟨a, ns, k, m, rfl, _⟩ := h
    rfl
  obtain ⟨a, ns, k, m, rfl, hS, h63, h0, h1, hm, hm6, q⟩ := h
  refine ⟨_, (pss_cons (ps_set (i := 3) sc_lrow_by.nd rfl (Or.inl rfl) (pe_call G_ldrawn (hr.mono (by decide)) rfl T.m_ldrawn T.F_ldrawn.kp T.b_ldrawn .nil pass0 (pa_cons (pv 0) (pa_cons (pv 1) (pa_cons (pe_op op_add (pv 2) pe_int) pa_nil)))))
      (pss_cons (ps_set (i := 4) sc_lrow_by.nd rfl (Or.inl rfl) (pe_lst pa_nil))
      (pss_cons (ps_set (i := 5) sc_lrow_by.nd rfl (Or.inl rfl) (pe_op op_add pe_int (pe_call G_ldrawn (hr.mono (by decide)) rfl T.m_ldrawn T.F_ldrawn.kp T.b_ldrawn .nil pass0 (pa_cons (pv 0) (pa_cons (pe_op op_add (pv 1) pe_int) (pa_cons (pv 2) pa_nil))))))
      (pss_cons (ps_while PassesOwn.never (pt_cmpR op_gt (pv 3) pe_int (nomark _)) (pss_cons (ps_set (i := 6) sc_lrow_by.nd rfl (Or.inl rfl) (pe_ix ix_list (pe_lst (pa_cons pe_int (pa_cons pe_int (pa_cons pe_int (pa_cons (pe_op op_add pe_int (pv 5)) pa_nil))))) (pe_call G_ldrawn (hr.mono (by decide)) rfl T.m_ldrawn T.F_ldrawn.kp T.b_ldrawn .nil pass0 (pa_cons (pv 0) (pa_cons (pe_op op_add (pv 1) pe_int) (pa_cons pe_int pa_nil)))) (fun _ _ => rfl)))
      (pss_cons (ps_set (i := 7) sc_lrow_by.nd rfl (Or.inl rfl) (pe_op op_mul (pe_call G_ldrawn (hr.mono (by decide)) rfl T.m_ldrawn T.F_ldrawn.kp T.b_ldrawn .nil pass0 (pa_cons (pv 0) (pa_cons (pe_op op_add (pe_op op_add (pv 1) pe_int) (pe_callB call_len_seq rfl T.z_len PySem.boot_len (pa_cons (pv 4) pa_nil))) (pa_cons (pv 6) pa_nil)))) (pe_call G_ldrawn (hr.mono (by decide)) rfl T.m_ldrawn T.F_ldrawn.kp T.b_ldrawn .nil pass0 (pa_cons (pv 0) (pa_cons (pe_op op_add (pv 1) pe_int) (pa_cons pe_int pa_nil))))))
      (pss_cons (ps_set (i := 5) sc_lrow_by.nd rfl (Or.inl rfl) (pe_callB (call_min2 rfl) rfl T.z_min boot_min (pa_cons (pv 3) (pa_cons (pe_op op_sub (pv 5) (pv 7)) pa_nil))))
      (pss_cons (ps_set (i := 5) sc_lrow_by.nd rfl (Or.inl rfl) (pe_callB (call_max2 rfl) rfl T.z_max boot_max (pa_cons pe_int (pa_cons (pv 5) pa_nil))))
      (pss_cons (ps_expr (pe_bm PySem.F.plainAttrs_list PySem.F.slot_list_append PySem.F.type_list_append mt_append (pv 4) (pa_cons (pv 5) pa_nil)))
      (pss_one (ps_set (i := 3) sc_lrow_by.nd rfl (Or.inl rfl) (pe_op op_sub (pv 3) (pv 5))))))))))
      (pss_one (ps_ret (pv 4))))))), ?_⟩
  refine ⟨_, rfl, _, rfl, _, rfl, _, _, rfl, rfl, a, ns, k, m + 1, rfl, hS, h63, h0, by omega, by omega, fun left l0 l1 => ?_⟩
  refine ⟨(by show 0 ≤ sizeLine; decide), fun p hp => ?_⟩
  have s1 : Same H (upd H p (.lst [])) := same_new hp _
  refine ⟨_, rfl, _, rfl, _, _, rfl, rfl, _, rfl, a, ns, k + 1, m, rfl, s1.seq hS, h63, by omega, by omega, hm, fun g g0 g1 => ?_⟩
  refine ⟨_, _, rfl, rfl, ?_⟩
  refine ⟨fun n σ H2 => ∃ (left g : Int) (r : List Int) (bb st : Option V), σ = [some (.ref a), some (.int k), some (.int m), some (.int left), some (.ref p), some (.int g), bb, st] ∧ (n : Int) = left ∧ Same H H2 ∧ H2 p = some (.lst (r.map V.int)) ∧
    1 ≤ g ∧ g ≤ 61 ∧ IsRow r ∧ (r = [] ∨ g ≤ r.getD (r.length - 1) 0) ∧ r.sum + left ≤ m, ⟨left.toNat, left, 1 + g, [], none, none, rfl, by omega, s1, upd_same, by omega, by omega, isRow_nil, .inl rfl, by rw [List.sum_nil]; omega⟩, ?_⟩
  rintro n σ H2 ⟨left, g, r, bb, st, rfl, hn, s2, hp2, hg1, hg2, hrow, hlast, hsum⟩
  have hlen := row_len hrow
  have hrl : (r.map V.int).length = r.length := List.length_map _
  refine ⟨_, rfl, _, _, rfl, rfl, _, rfl, ?_⟩
  refine ite2 (fun c => ?_) (fun c => ?_)
  · have c' : (0 : Int) < left := of_decide_eq_true c
    refine ⟨_, fun _ _ z => z, ?_⟩
    refine ⟨_, rfl, _, _, rfl, rfl, (by show 4 ≤ sizeLine; decide), fun l hl => ?_⟩
    have s3 : Same H (upd H2 l (.lst [.int 3, .int 3, .int 12, .int (1 + g)])) := s2.trans (same_new hl _)
    refine ⟨_, rfl, _, rfl, _, _, rfl, rfl, a, ns, k + 71, 4, rfl, s3.seq hS, h63, by omega, by omega, by decide, fun d d0 d1 => ?_⟩
    obtain ⟨v, hv, hv1⟩ : ∃ v : Int, atI [V.int 3, .int 3, .int 12, .int (1 + g)] d = some (.int v) ∧ 1 ≤ v := by
      have hd : d = 0 ∨ d = 1 ∨ d = 2 ∨ d = 3 := by omega
      rcases hd with rfl | rfl | rfl | rfl
      · exact ⟨3, rfl, by decide⟩
      · exact ⟨3, rfl, by decide⟩
      · exact ⟨12, rfl, by decide⟩
      · exact ⟨1 + g, rfl, by omega⟩
    have hpl : p ≠ l := ne_of_none hp2 hl
    have hp3 : (upd H2 l (.lst [.int 3, .int 3, .int 12, .int (1 + g)])) p = some (.lst (r.map V.int)) := by rw [upd_ne hpl]; exact hp2
    refine ⟨l, _, d, _, rfl, rfl, SqL.of upd_same, hv, ?_⟩
    refine ⟨_, rfl, _, rfl, _, _, rfl, rfl, _, rfl, p, _, rfl, .inl (SqL.of hp3), _, _, rfl, rfl, _, rfl, a, ns, k + 2 + ((r.map V.int).length : Nat), v, rfl, s3.seq hS, h63, by omega, by omega, by omega, fun e e0 e1 => ?_⟩
    refine ⟨_, rfl, _, rfl, _, _, rfl, rfl, a, ns, k + 70, 2, rfl, s3.seq hS, h63, by omega, by omega, by decide, fun f f0 f1 => ?_⟩
    refine ⟨_, _, rfl, rfl, .inr ⟨by omega, by omega⟩, ?_⟩
    have hef : 0 ≤ e * f := Int.mul_nonneg e0 f0
    refine ⟨_, rfl, _, rfl, _, rfl, _, _, rfl, rfl, _, _, rfl, ?_⟩
    refine ⟨_, rfl, _, _, rfl, ?_⟩
    obtain ⟨G, hG⟩ : ∃ G : Int, G = (if (if g - e * f < left then g - e * f else left) > 1 then (if g - e * f < left then g - e * f else left) else 1) := ⟨_, rfl⟩
    have hG1 : 1 ≤ G ∧ G ≤ g ∧ G ≤ left := by
      rw [hG]
      split
      · split <;> omega
      · omega
    rw [← hG]
    refine ⟨_, rfl, .inl ⟨rfl, _, SqL.of hp3⟩, _, rfl, p, _, _, rfl, rfl, hp3, ?_, ?_⟩
    · exact small1000 (by omega)
    refine ⟨_, rfl, _, rfl, _, _, rfl, rfl, ?_⟩
    refine ⟨(left - G).toNat, by omega, left - G, G, r ++ [G], _, _, rfl, by omega, ?_, ?_, by omega, by omega, isRow_snoc hrow hG1.1 ?_, ?_, ?_⟩
    · intro b o ho
      rw [upd_ne (ne_of_none ho hp)]
      exact s3 b o ho
    · rw [upd_same, List.map_append]
      rfl
    · rcases hlast with z | z
      · exact .inl z
      · exact .inr (by omega)
    · right
      have e1 : (r ++ [G]).length - 1 = r.length := by rw [List.length_append]; rfl
      rw [e1, getD_app_last]
      exact Int.le_refl _
    · rw [sum_snoc]; omega
  · have c' : ¬ (0 : Int) < left := of_decide_eq_false (Bool.eq_false_iff.mpr c)
    exact ⟨_, rfl, q p r H2 s2 hp hrow (by omega) (by omega) hp2⟩


theorem ok_lwhole (T : Tx K mg f_beads d_beads f_row_of d_row_of f_check_places d_check_places f_quotient d_quotient f_check_rods d_check_rods f_share d_share f_parted d_parted f_heights_on d_heights_on f_turned d_turned f_lines_at d_lines_at f_hooks d_hooks f_line_hooks d_line_hooks f_fillings d_fillings f_product_to d_product_to f_lesser d_lesser f_without_rim d_without_rim f_ways_down d_ways_down f_mixes d_mixes f_ldrawn d_ldrawn f_lwhole d_lwhole f_lrow_by d_lrow_by f_lrefused d_lrefused c_BeadError c_NoRods) : FnOk P w K mg base CX0 1 f_lwhole d_lwhole ["found"] spWhole := by
  refine T.F_lwhole.ok sc_lwhole (fun vs H Q E h => ?_) (fun cdv A outer s H vs Q E hr h => ?_)
  · obtain ⟨i, rfl, _⟩ := h
    rfl
  obtain ⟨i, rfl, q⟩ := h
  refine ⟨_, (pss_one (ps_ret (pe_and (pe_callB call_isinst rfl T.z_isinstance boot_isinstance (pa_cons (pv 0) (pa_cons (pe_bltn (v := .ty "int") rfl T.z_int boot_int rfl) pa_nil))) (pe_one (pe_not (pe_callB call_isinst rfl T.z_isinstance boot_isinstance (pa_cons (pv 0) (pa_cons (pe_bltn (v := .ty "bool") rfl T.z_bool boot_bool rfl) pa_nil)))))))), ?_⟩
  refine ⟨_, rfl, _, _, _, true, rfl, .int i, kit_int_int, _, rfl, iteT ?_⟩
  exact ⟨_, rfl, _, _, _, false, rfl, .int i, kit_int_bool, _, rfl, q⟩


theorem ok_lines_at (T : Tx K mg f_beads d_beads f_row_of d_row_of f_check_places d_check_places f_quotient d_quotient f_check_rods d_check_rods f_share d_share f_parted d_parted f_heights_on d_heights_on f_turned d_turned f_lines_at d_lines_at f_hooks d_hooks f_line_hooks d_line_hooks f_fillings d_fillings f_product_to d_product_to f_lesser d_lesser f_without_rim d_without_rim f_ways_down d_ways_down f_mixes d_mixes f_ldrawn d_ldrawn f_lwhole d_lwhole f_lrow_by d_lrow_by f_lrefused d_lrefused c_BeadError c_NoRods) : FnOk P w K mg base CX0 1 f_lines_at d_lines_at ["row", "place"] (spLinesAt K) := by
  refine T.F_lines_at.ok sc_lines_at (fun vs H Q E h => ?_) (fun cdv A outer s H vs Q E hr h => ?_)
  · obtain ⟨a, r, j, rfl, _⟩ := h
    rfl
  obtain ⟨a, r, j, rfl, hS, hlen, q⟩ := h
  refine ⟨_, (pss_one (ps_ret (pe_callB call_len_seq rfl T.z_len PySem.boot_len (pa_cons (pe_comp ["row", "place"] ["number", "place"] [none, some 1] (defScope s_lines_at) rfl (pi_list (pv 0)) (fun _ _ _ _ => (pg_name (i := 0) (show List.Nodup (["number", "place"] : List Str) by decide +kernel) rfl (Or.inl rfl) (Or.inr rfl))) (fun _ _ _ _ => (pif_one (pt_cmpR op_gt (pv 0) (pv 1) (nomark _)))) (fun _ _ _ _ => (pv 0))) pa_nil)))), ?_⟩
  refine ⟨_, rfl, a, rfl, ⟨_, hS⟩, fun D hD => comp_gt hS hlen hD fun H2 s2 hD2 => ?_⟩
  refine ⟨D, _, rfl, .inl (SqL.of hD2), ?_⟩
  rw [List.length_map]
  exact q H2 s2


theorem ok_turned (T : Tx K mg f_beads d_beads f_row_of d_row_of f_check_places d_check_places f_quotient d_quotient f_check_rods d_check_rods f_share d_share f_parted d_parted f_heights_on d_heights_on f_turned d_turned f_lines_at d_lines_at f_hooks d_hooks f_line_hooks d_line_hooks f_fillings d_fillings f_product_to d_product_to f_lesser d_lesser f_without_rim d_without_rim f_ways_down d_ways_down f_mixes d_mixes f_ldrawn d_ldrawn f_lwhole d_lwhole f_lrow_by d_lrow_by f_lrefused d_lrefused c_BeadError c_NoRods) : FnOk P w K mg base CX0 2 f_turned d_turned ["row"] (spTurned K) := by
  have G_lines_at : FnOk P w K mg base CX0 1 f_lines_at d_lines_at ["row", "place"] (spLinesAt K) := ok_lines_at T
  refine T.F_turned.ok sc_turned (fun vs H Q E h => ?_) (fun cdv A outer s H vs Q E hr h => ?_)
  · obtain ⟨a, r, rfl, _⟩ := h
    rfl
  obtain ⟨a, r, rfl, hS, hlen, hh0, hhead, q⟩ := h
  refine ⟨_, (pss_cons (ps_set (i := 1) sc_turned.nd rfl (Or.inl rfl) (pe_ifExp (pt_truth (pv 0) (fun _ => rfl)) (pe_ix ix_list (pv 0) pe_int (fun _ _ => rfl)) pe_int))
      (pss_one (ps_ret (pe_comp ["row", "width"] ["place", "row"] [none, some 0] (defScope s_turned) rfl (pi_range1 rfl T.z_range (pa_cons (pv 1) pa_nil)) (fun _ _ _ _ => (pg_name (i := 0) (show List.Nodup (["place", "row"] : List Str) by decide +kernel) rfl (Or.inl rfl) (Or.inr rfl))) (fun _ _ _ _ => pif_nil) (fun _ _ _ _ => (pe_call G_lines_at (hr.mono (by decide)) rfl T.m_lines_at T.F_lines_at.kp T.b_lines_at .nil pass0 (pa_cons (pv 1) (pa_cons (pv 0) pa_nil)))))))), ?_⟩
  have rest : ∀ D, H D = none → CompW (Itr 0 (r.headD 0).toNat) (gName 0) (fun _ H Q => Q true H) (tCall (spLinesAt K) [] E0 (tCons (tVar 1) (tCons (tVar 0) tNil))) Q D [none, some (.ref a)] H := fun D hD => by
    refine comp_range (lo := 0) (n := (r.headD 0).toNat) (fun i ys σ H2 => ∃ u : Option V, σ = [u, some (.ref a)] ∧ Same H H2 ∧ H2 D = some (.lst ys) ∧ ys = ((List.range i).map fun j => ((linesAt r (j : Nat) : Nat) : Int)).map V.int)
      ⟨none, rfl, same_new hD _, upd_same, rfl⟩ ?_ ?_
    · rintro i ys σ H2 hi ⟨u, rfl, s2, hD2, rfl⟩
      refine ⟨_, rfl, _, rfl, a, r, _, rfl, s2.seq hS, hlen, fun H3 s3 => ⟨s3 _ _ hD2, ?_, _, rfl, same_upd (s2.trans s3) hD, upd_same, ?_⟩⟩
      · rw [List.length_map, List.length_map, List.length_range]
        exact small1000 (by omega)
      · rw [List.range_succ, List.map_append, List.map_append]
        have e : (0 + (i : Int)) = (i : Int) := Int.zero_add _
        rw [e]
        rfl
    · rintro ys σ H2 ⟨u, rfl, s2, hD2, rfl⟩
      exact q D H2 s2 hD hD2
  cases hr0 : r with
  | nil =>
    subst hr0
    refine ⟨_, rfl, false, .inl ⟨_, hS, rfl⟩, iteF ?_⟩
    exact ⟨_, rfl, 0, rfl, by decide, by decide, rest⟩
  | cons x t =>
    have hv : atI (r.map V.int) 0 = some (.int (r.headD 0)) := by
      have z := at_int (ns := r) (i := 0) (by decide) (by rw [hr0, List.length_cons]; omega)
      have e : r.getD (0 : Int).toNat 0 = r.headD 0 := by rw [hr0]; rfl
      rw [e] at z
      exact z
    refine ⟨_, rfl, true, .inl ⟨_, hS, by rw [hr0]; rfl⟩, iteT ?_⟩
    exact ⟨_, rfl, a, _, _, _, rfl, rfl, hS, hv, _, rfl, r.headD 0, rfl, by omega, by omega, rest⟩


theorem ok_line_hooks (T : Tx K mg f_beads d_beads f_row_of d_row_of f_check_places d_check_places f_quotient d_quotient f_check_rods d_check_rods f_share d_share f_parted d_parted f_heights_on d_heights_on f_turned d_turned f_lines_at d_lines_at f_hooks d_hooks f_line_hooks d_line_hooks f_fillings d_fillings f_product_to d_product_to f_lesser d_lesser f_without_rim d_without_rim f_ways_down d_ways_down f_mixes d_mixes f_ldrawn d_ldrawn f_lwhole d_lwhole f_lrow_by d_lrow_by f_lrefused d_lrefused c_BeadError c_NoRods) : FnOk P w K mg base CX0 1 f_line_hooks d_line_hooks ["row", "columns", "line"] (spLineHooks K) := by
  refine T.F_line_hooks.ok sc_line_hooks (fun vs H Q E h => ?_) (fun cdv A outer s H vs Q E hr h => ?_)
  · obtain ⟨a, c, r, k, rfl, _⟩ := h
    rfl
  obtain ⟨a, c, r, k, rfl, hS, hC, hrow, hlen, hhead, h0, h1, q⟩ := h
  refine ⟨_, (pss_cons (ps_set (i := 3) sc_line_hooks.nd rfl (Or.inl rfl) (pe_lst pa_nil))
      (pss_cons (ps_for PassesOwn.never rfl (pi_range1 rfl T.z_range (pa_cons (pe_ix ix_list (pv 0) (pv 2) (fun _ _ => rfl)) pa_nil)) (pg_name (i := 4) sc_line_hooks.nd rfl (Or.inl rfl)) (pss_cons (ps_set (i := 5) sc_line_hooks.nd rfl (Or.inl rfl) (pe_op op_sub (pe_op op_sub (pe_ix ix_list (pv 0) (pv 2) (fun _ _ => rfl)) (pv 4)) pe_int))
      (pss_cons (ps_set (i := 6) sc_line_hooks.nd rfl (Or.inl rfl) (pe_op op_sub (pe_op op_sub (pe_ix ix_list (pv 1) (pv 4) (fun _ _ => rfl)) (pv 2)) pe_int))
      (pss_one (ps_expr (pe_bm PySem.F.plainAttrs_list PySem.F.slot_list_append PySem.F.type_list_append mt_append (pv 3) (pa_cons (pe_op op_add (pe_op op_add (pv 5) (pv 6)) pe_int) pa_nil)))))))
      (pss_one (ps_ret (pv 3))))), ?_⟩
  have hk : k.toNat < r.length := by omega
  have hv := at_int (ns := r) (i := k) h0 h1
  have hle := row_le_head hrow hk
  have hpos : 1 ≤ r.getD k.toNat 0 := hrow.1 _ hk
  refine ⟨(by show 0 ≤ sizeLine; decide), fun p hp => ?_⟩
  have s1 : Same H (upd H p (.lst [])) := same_new hp _
  refine ⟨_, rfl, _, rfl, a, _, _, _, rfl, rfl, s1.seq hS, hv, _, rfl, by omega, by omega, for_range (lo := 0) (n := (r.getD k.toNat 0).toNat)
    (fun i σ H2 => ∃ u v x : Option V, σ = [some (.ref a), some (.ref c), some (.int k), some (.ref p), u, v, x] ∧ Same H H2 ∧ H2 p = some (.lst (((List.range i).map fun (j : Nat) => r.getD k.toNat 0 - (j : Int) + (linesAt (r.drop (k.toNat + 1)) (j : Nat) : Int)).map V.int)))
    ⟨none, none, none, rfl, s1, upd_same⟩ ?_ ?_⟩
  · rintro i σ H2 hi ⟨u, v, x, rfl, s2, hp2⟩
    have ei : (0 + (i : Int)).toNat = i := by omega
    have hcv := at_int (ns := turnedM r) (i := 0 + (i : Int)) (by omega) (by rw [turned_len]; omega)
    rw [ei, turned_at (by omega)] at hcv
    refine ⟨_, rfl, _, rfl, a, _, _, _, rfl, rfl, s2.seq hS, hv, _, rfl, _, _, rfl, rfl, _, _, rfl, rfl, ?_⟩
    refine ⟨_, rfl, _, rfl, c, _, _, _, rfl, rfl, s2.seq hC, hcv, _, rfl, _, _, rfl, rfl, _, _, rfl, rfl, ?_⟩
    refine ⟨_, rfl, .inl ⟨rfl, _, SqL.of hp2⟩, _, rfl, _, rfl, _, _, rfl, rfl, _, _, rfl, rfl, p, _, _, rfl, rfl, hp2, ?_, ?_⟩
    · rw [List.length_map, List.length_map, List.length_range]
      exact small1000 (by omega)
    · refine ⟨_, _, _, rfl, same_upd s2 hp, ?_⟩
      rw [upd_same, List.range_succ, List.map_append, List.map_append]
      have e2 := hook_two (isRow_pair hrow) hk (j := (i : Int)) (by omega)
      have e3 : r.getD k.toNat 0 - (0 + (i : Int)) - 1 + ((linesAt r (i : Nat) : Nat) - k - 1) + 1 = r.getD k.toNat 0 - (i : Int) + (linesAt (r.drop (k.toNat + 1)) (i : Nat) : Int) := by omega
      exact congrArg (fun z => some (HO.lst (_ ++ [V.int z]))) e3
  · rintro σ H2 ⟨u, v, x, rfl, s2, hp2⟩
    exact ⟨_, rfl, q p H2 s2 hp hp2⟩


theorem ok_hooks (T : Tx K mg f_beads d_beads f_row_of d_row_of f_check_places d_check_places f_quotient d_quotient f_check_rods d_check_rods f_share d_share f_parted d_parted f_heights_on d_heights_on f_turned d_turned f_lines_at d_lines_at f_hooks d_hooks f_line_hooks d_line_hooks f_fillings d_fillings f_product_to d_product_to f_lesser d_lesser f_without_rim d_without_rim f_ways_down d_ways_down f_mixes d_mixes f_ldrawn d_ldrawn f_lwhole d_lwhole f_lrow_by d_lrow_by f_lrefused d_lrefused c_BeadError c_NoRods) : FnOk P w K mg base CX0 3 f_hooks d_hooks ["row"] (spHooks K) := by
  have G_turned : FnOk P w K mg base CX0 2 f_turned d_turned ["row"] (spTurned K) := ok_turned T
  have G_line_hooks : FnOk P w K mg base CX0 1 f_line_hooks d_line_hooks ["row", "columns", "line"] (spLineHooks K) := ok_line_hooks T
  refine T.F_hooks.ok sc_hooks (fun vs H Q E h => ?_) (fun cdv A outer s H vs Q E hr h => ?_)
  · obtain ⟨a, r, rfl, _⟩ := h
    rfl
  obtain ⟨a, r, rfl, hS, hrow, hlen, hhead, q⟩ := h
  refine ⟨_, (pss_cons (ps_set (i := 1) sc_hooks.nd rfl (Or.inr rfl) (pe_call G_turned (hr.mono (by decide)) rfl T.m_turned T.F_turned.kp T.b_turned .nil pass0 (pa_cons (pv 0) pa_nil)))
      (pss_one (ps_ret (pe_comp ["row", "columns"] ["line", "row", "columns"] [none, some 0, some 1] (defScope s_hooks) rfl (pi_range1 rfl T.z_range (pa_cons (pe_callB call_len_seq rfl T.z_len PySem.boot_len (pa_cons (pv 0) pa_nil)) pa_nil)) (fun _ _ _ _ => (pg_name (i := 0) (show List.Nodup (["line", "row", "columns"] : List Str) by decide +kernel) rfl (Or.inl rfl) (Or.inr rfl))) (fun _ _ _ _ => pif_nil) (fun _ _ _ _ => (pe_call G_line_hooks (hr.mono (by decide)) rfl T.m_line_hooks T.F_line_hooks.kp T.b_line_hooks .nil pass0 (pa_cons (pv 1) (pa_cons (pv 2) (pa_cons (pv 0) pa_nil))))))))), ?_⟩
  have hl : (r.map V.int).length = r.length := List.length_map _
  have hh0 : 0 ≤ r.headD 0 := by
    cases hr0 : r with
    | nil => exact Int.le_refl _
    | cons x t =>
      have := isRow_pos hrow x (by rw [hr0]; exact List.mem_cons_self ..)
      show 0 ≤ x
      omega
  refine ⟨_, rfl, a, r, rfl, hS, hlen, hh0, hhead, fun c H1 s1 hc hc1 => ?_⟩
  refine ⟨_, rfl, a, _, rfl, .inl (s1.seq hS), _, rfl, by omega, by omega, fun D hD => comp_range (lo := 0) (n := (((r.map V.int).length : Nat) : Int).toNat)
    (fun i ys σ H2 => ∃ (u : Option V) (ps : List Addr), σ = [u, some (.ref a), some (.ref c)] ∧ Same H1 H2 ∧ H2 D = some (.lst ys) ∧ ys = ps.map V.ref ∧ Made H1 H2 D ps i (hookLine r))
    ⟨none, [], rfl, same_new hD _, upd_same, rfl, Made.zero⟩ ?_ ?_⟩
  · rintro i ys σ H2 hi ⟨u, ps, rfl, s2, hD2, rfl, M⟩
    have hi' : i < r.length := by omega
    refine ⟨_, rfl, _, rfl, _, rfl, a, c, r, 0 + (i : Int), rfl, s2.seq (s1.seq hS), s2.seq (SqL.of hc1), hrow, hlen, hhead, by omega, by omega, fun p H3 s3 hp hp3 => ?_⟩
    have ei : (0 + (i : Int)).toNat = i := by omega
    rw [ei] at hp3
    refine ⟨s3 _ _ hD2, ?_, _, ps ++ [p], rfl, same_upd (s2.trans s3) hD, upd_same, ?_, M.snoc s2 s3 hp hp3 ⟨_, hD2⟩⟩
    · rw [List.length_map, M.len]
      exact small1000 (by omega)
    · rw [List.map_append]
      rfl
  · rintro ys σ H2 ⟨u, ps, rfl, s2, hD2, rfl, M⟩
    have en : (((r.map V.int).length : Nat) : Int).toNat = r.length := by omega
    rw [en] at M
    refine q D ps H2 (s1.trans s2) (s1.free hD) ⟨⟨by rw [hooksM_len]; exact M.len, hD2, fun k hk => ?_⟩, fun x hx => s1.free (M.fresh x hx), M.nd, M.np⟩
    rw [hooksM_len] at hk
    rw [hooksM_at hk]
    exact M.each k hk


theorem ok_check_places (T : Tx K mg f_beads d_beads f_row_of d_row_of f_check_places d_check_places f_quotient d_quotient f_check_rods d_check_rods f_share d_share f_parted d_parted f_heights_on d_heights_on f_turned d_turned f_lines_at d_lines_at f_hooks d_hooks f_line_hooks d_line_hooks f_fillings d_fillings f_product_to d_product_to f_lesser d_lesser f_without_rim d_without_rim f_ways_down d_ways_down f_mixes d_mixes f_ldrawn d_ldrawn f_lwhole d_lwhole f_lrow_by d_lrow_by f_lrefused d_lrefused c_BeadError c_NoRods) : FnOk P w K mg base CX0 1 f_check_places d_check_places ["places"] (spCheck K) := by
  refine T.F_check_places.ok sc_check_places (fun vs H Q E h => ?_) (fun cdv A outer s H vs Q E hr h => ?_)
  · obtain ⟨a, ns, rfl, _⟩ := h
    rfl
  obtain ⟨a, ns, rfl, hS, hrise, q⟩ := h
  refine ⟨_, (pss_cons (ps_set (i := 1) sc_check_places.nd rfl (Or.inl rfl) (pe_un un_neg pe_int))
      (pss_one (ps_for PassesOwn.never rfl (pi_list (pv 0)) (pg_name (i := 2) sc_check_places.nd rfl (Or.inl rfl)) (pss_cons (ps_if (pt_cmpR op_le (pv 2) (pv 1) (nomark _)) (pss_one ps_never) pss_nil)
      (pss_one (ps_set (i := 1) sc_check_places.nd rfl (Or.inl rfl) (pv 2))))))), ?_⟩
  have hl : (ns.map V.int).length = ns.length := List.length_map _
  refine ⟨_, rfl, ?_⟩
  refine ⟨_, rfl, a, rfl, ⟨_, hS⟩, for_list (K := K) (a := a) (xs := ns.map V.int) (fun i σ H2 => ∃ u : Option V, σ = [some (.ref a), some (.int (if i = 0 then (-1 : Int) else ns.getD (i - 1) 0)), u] ∧ H2 = H)
    ⟨none, rfl, rfl⟩ (fun i σ H2 _ ⟨_, _, e⟩ => by rw [e]; exact hS) ?_ ?_⟩
  · rintro i y σ H2 hi ⟨u, rfl, rfl⟩
    have hil : i < (ns.map V.int).length := (List.getElem?_eq_some_iff.mp hi).1
    rw [hl] at hil
    obtain rfl : y = V.int (ns.getD i 0) := by
      rw [List.getElem?_map, getD_of hil] at hi
      exact (Option.some.inj hi).symm
    have hlt := hrise i hil
    refine ⟨_, rfl, _, rfl, _, _, rfl, rfl, _, rfl, ?_⟩
    refine iteC (decide_eq_false (by omega)) ?_
    refine ⟨_, rfl, some (.int (ns.getD i 0)), ?_, rfl⟩
    have e : (if i + 1 = 0 then (-1 : Int) else ns.getD (i + 1 - 1) 0) = ns.getD i 0 := by rw [if_neg (by omega)]; rfl
    rw [e]
    rfl
  · rintro σ H2 ⟨u, rfl, rfl⟩
    exact q


theorem rep_flat (n : Nat) : (List.replicate n [V.int 0]).flatten = (List.replicate n (0 : Int)).map V.int := by
  induction n with
  | zero => rfl
  | succ n ih => rw [List.replicate_succ, List.flatten_cons, ih, List.replicate_succ]; rfl
theorem ok_beads (T : Tx K mg f_beads d_beads f_row_of d_row_of f_check_places d_check_places f_quotient d_quotient f_check_rods d_check_rods f_share d_share f_parted d_parted f_heights_on d_heights_on f_turned d_turned f_lines_at d_lines_at f_hooks d_hooks f_line_hooks d_line_hooks f_fillings d_fillings f_product_to d_product_to f_lesser d_lesser f_without_rim d_without_rim f_ways_down d_ways_down f_mixes d_mixes f_ldrawn d_ldrawn f_lwhole d_lwhole f_lrow_by d_lrow_by f_lrefused d_lrefused c_BeadError c_NoRods) : FnOk P w K mg base CX0 1 f_beads d_beads ["row", "many"] (spBeads K) := by
  refine T.F_beads.ok sc_beads (fun vs H Q E h => ?_) (fun cdv A outer s H vs Q E hr h => ?_)
  · obtain ⟨a, r, m, rfl, _⟩ := h
    rfl
  obtain ⟨a, r, m, rfl, hS, hm, hm1, q⟩ := h
  refine ⟨_, (pss_cons (ps_set (i := 2) sc_beads.nd rfl (Or.inl rfl) (pe_op op_sub (pv 1) (pe_callB call_len_seq rfl T.z_len PySem.boot_len (pa_cons (pv 0) pa_nil))))
      (pss_cons (ps_if (pt_cmpR op_lt (pv 2) pe_int (nomark _)) (pss_one ps_never) pss_nil)
      (pss_cons (ps_set (i := 3) sc_beads.nd rfl (Or.inl rfl) (pe_op op_cat (pe_op op_rep (pe_lst (pa_cons pe_int pa_nil)) (pv 2)) (pe_listRev rfl rfl T.z_list rfl T.z_reversed (pa_cons (pv 0) pa_nil))))
      (pss_one (ps_ret (pe_comp ["row", "many", "spare", "gaps"] ["lower", "gap"] [none, none] (defScope s_beads) rfl (pi_enum rfl T.z_enumerate (pa_cons (pv 3) pa_nil)) (fun _ _ _ _ => (pg_tupK (K := K) (n := 2) rfl rfl (pgs_cons (pg_name (i := 0) (show List.Nodup (["lower", "gap"] : List Str) by decide +kernel) rfl (Or.inl rfl) (Or.inr rfl)) (pgs_cons (pg_name (i := 1) (show List.Nodup (["lower", "gap"] : List Str) by decide +kernel) rfl (Or.inl rfl) (Or.inr rfl)) pgs_nil)))) (fun _ _ _ _ => pif_nil) (fun _ _ _ _ => (pe_op op_add (pv 0) (pv 1))))))))), ?_⟩
  have hl : (r.map V.int).length = r.length := List.length_map _
  have hs : sizeLine = 16777216 := sizeLine_eq
  refine ⟨_, rfl, _, rfl, a, _, rfl, .inl hS, _, _, rfl, rfl, ?_⟩
  refine ⟨_, rfl, _, _, rfl, rfl, _, rfl, iteC (decide_eq_false (by omega)) ?_⟩
  refine ⟨(by show 1 ≤ sizeLine; decide), fun z hz => ?_⟩
  have s1 : Same H (upd H z (.lst [.int 0])) := same_new hz _
  refine ⟨_, rfl, z, _, _, rfl, rfl, upd_same, by omega, by omega, by rw [List.length_singleton]; omega, fun y hy => ?_⟩
  have s2 := s1.trans (same_new hy (.lst (List.replicate (m - ((r.map V.int).length : Nat)).toNat [V.int 0]).flatten))
  refine ⟨_, rfl, a, _, rfl, s2.seq hS, fun x hx => ?_⟩
  have s3 := s2.trans (same_new hx (.lst (r.map V.int).reverse))
  have e1 : (m - ((r.map V.int).length : Nat)).toNat = m.toNat - r.length := by omega
  refine ⟨y, x, _, _, rfl, rfl, same_new hx _ _ _ upd_same, upd_same, ?_, fun g hg => ?_⟩
  · rw [rep_flat, List.length_map, List.length_replicate, List.length_reverse]; omega
  have s4 := s3.trans (same_new hg (.lst ((List.replicate (m - ((r.map V.int).length : Nat)).toNat [V.int 0]).flatten ++ (r.map V.int).reverse)))
  have eg : (List.replicate (m - ((r.map V.int).length : Nat)).toNat [V.int 0]).flatten ++ (r.map V.int).reverse = (gapsM r m.toNat).map V.int := by
    unfold gapsM
    rw [rep_flat, e1, List.map_append, List.map_reverse]
  rw [eg] at s4 ⊢
  have hgl := gaps_len (r := r) (m := m.toNat) (by omega)
  have hgl2 : ((gapsM r m.toNat).map V.int).length = m.toNat := by rw [List.length_map]; exact hgl
  refine ⟨_, rfl, g, rfl, ⟨_, SqL.of upd_same⟩, fun D hD => comp_enum (K := K) (a := g) (xs := (gapsM r m.toNat).map V.int)
    (fun i ys σ H2 => ∃ u v : Option V, σ = [u, v] ∧ Same H H2 ∧ H2 g = some (.lst ((gapsM r m.toNat).map V.int)) ∧ H2 D = some (.lst ys) ∧ ys = ((List.range i).map fun (k : Nat) => (k : Int) + (gapsM r m.toNat).getD k 0).map V.int)
    ⟨none, none, rfl, s4.trans (same_new hD _), same_new hD _ _ _ upd_same, upd_same, rfl⟩ (fun i ys σ H2 _ ⟨_, _, _, _, z, _⟩ => SqL.of z) ?_ ?_⟩
  · rintro i y ys σ H2 t hi ⟨u, v, rfl, s5, hg5, hD5, rfl⟩ ht
    have hil : i < ((gapsM r m.toNat).map V.int).length := (List.getElem?_eq_some_iff.mp hi).1
    have hil2 : i < (gapsM r m.toNat).length := by rw [List.length_map] at hil; exact hil
    obtain rfl : y = V.int ((gapsM r m.toNat).getD i 0) := by
      rw [List.getElem?_map, getD_of hil2] at hi
      exact (Option.some.inj hi).symm
    have st := same_new ht (.tup [.int (i : Int), .int ((gapsM r m.toNat).getD i 0)])
    refine ⟨t, _, rfl, SqT.of upd_same, rfl, _, _, rfl, _, _, rfl, rfl, ?_⟩
    refine ⟨_, rfl, _, rfl, _, _, rfl, rfl, st _ _ hD5, ?_, _, _, rfl, ?_, ?_, upd_same, ?_⟩
    · rw [List.length_map, List.length_map, List.length_range]
      exact small1000 (by omega)
    · exact same_upd (s5.trans st) (s4.free hD)
    · rw [upd_ne (fun z => by rw [z] at hD; rw [upd_same] at hD; cases hD)]
      exact st _ _ hg5
    · rw [List.range_succ, List.map_append, List.map_append]
      rfl
  · rintro ys σ H2 ⟨u, v, rfl, s5, hg5, hD5, rfl⟩
    refine q D H2 s5 (s4.free hD) ?_
    rw [hgl2] at hD5
    exact hD5


theorem ok_row_of (T : Tx K mg f_beads d_beads f_row_of d_row_of f_check_places d_check_places f_quotient d_quotient f_check_rods d_check_rods f_share d_share f_parted d_parted f_heights_on d_heights_on f_turned d_turned f_lines_at d_lines_at f_hooks d_hooks f_line_hooks d_line_hooks f_fillings d_fillings f_product_to d_product_to f_lesser d_lesser f_without_rim d_without_rim f_ways_down d_ways_down f_mixes d_mixes f_ldrawn d_ldrawn f_lwhole d_lwhole f_lrow_by d_lrow_by f_lrefused d_lrefused c_BeadError c_NoRods) : FnOk P w K mg base CX0 2 f_row_of d_row_of ["places"] (spRowOf K) := by
  have G_check_places : FnOk P w K mg base CX0 1 f_check_places d_check_places ["places"] (spCheck K) := ok_check_places T
  refine T.F_row_of.ok sc_row_of (fun vs H Q E h => ?_) (fun cdv A outer s H vs Q E hr h => ?_)
  · obtain ⟨a, ns, rfl, _⟩ := h
    rfl
  obtain ⟨a, ns, rfl, hS, hrise, hlen, q⟩ := h
  refine ⟨_, (pss_cons (ps_expr (pe_call G_check_places (hr.mono (by decide)) rfl T.m_check_places T.F_check_places.kp T.b_check_places .nil pass0 (pa_cons (pv 0) pa_nil)))
      (pss_cons (ps_setC (i := 1) ["places", "gaps"] ["lower", "place"] [none, none] (defScope s_row_of) rfl sc_row_of.nd rfl (Or.inl rfl) (pi_enum rfl T.z_enumerate (pa_cons (pv 0) pa_nil)) (fun _ _ _ _ => (pg_tupK (K := K) (n := 2) rfl rfl (pgs_cons (pg_name (i := 0) (show List.Nodup (["lower", "place"] : List Str) by decide +kernel) rfl (Or.inl rfl) (Or.inr rfl)) (pgs_cons (pg_name (i := 1) (show List.Nodup (["lower", "place"] : List Str) by decide +kernel) rfl (Or.inl rfl) (Or.inr rfl)) pgs_nil)))) (fun _ _ _ _ => pif_nil) (fun _ _ _ _ => (pe_op op_sub (pv 1) (pv 0))))
      (pss_one (ps_ret (pe_comp ["places", "gaps"] ["gap"] [none] (defScope s_row_of) rfl (pi_rev rfl T.z_reversed (pa_cons (pv 1) pa_nil)) (fun _ _ _ _ => (pg_name (i := 0) (show List.Nodup (["gap"] : List Str) by decide +kernel) rfl (Or.inl rfl) (Or.inr rfl))) (fun _ _ _ _ => (pif_one (pt_cmpR op_gt (pv 0) pe_int (nomark _)))) (fun _ _ _ _ => (pv 0))))))), ?_⟩
  have hl : (ns.map V.int).length = ns.length := List.length_map _
  refine ⟨_, rfl, a, ns, rfl, hS, hrise, ?_⟩
  refine ⟨_, rfl, a, rfl, ⟨_, hS⟩, fun D hD => comp_enum (K := K) (a := a) (xs := ns.map V.int)
    (fun i ys σ H2 => ∃ u v : Option V, σ = [u, v] ∧ Same H H2 ∧ H2 D = some (.lst ys) ∧ ys = ((List.range i).map fun (k : Nat) => ns.getD k 0 - (k : Int)).map V.int)
    ⟨none, none, rfl, same_new hD _, upd_same, rfl⟩ (fun i ys σ H2 _ ⟨_, _, _, z, _⟩ => z.seq hS) ?_ ?_⟩
  · rintro i y ys σ H2 t hi ⟨u, v, rfl, s5, hD5, rfl⟩ ht
    have hil : i < (ns.map V.int).length := (List.getElem?_eq_some_iff.mp hi).1
    rw [hl] at hil
    obtain rfl : y = V.int (ns.getD i 0) := by
      rw [List.getElem?_map, getD_of hil] at hi
      exact (Option.some.inj hi).symm
    have st := same_new ht (.tup [.int (i : Int), .int (ns.getD i 0)])
    refine ⟨t, _, rfl, SqT.of upd_same, rfl, _, _, rfl, _, _, rfl, rfl, ?_⟩
    refine ⟨_, rfl, _, rfl, _, _, rfl, rfl, st _ _ hD5, ?_, _, _, rfl, ?_, upd_same, ?_⟩
    · rw [List.length_map, List.length_map, List.length_range]
      exact small1000 (by omega)
    · exact same_upd (s5.trans st) hD
    · rw [List.range_succ, List.map_append, List.map_append]
      rfl
  · rintro ys σ H2 ⟨u, v, rfl, s5, hD5, rfl⟩
    have hgl : (gapsOf ns).length = ns.length := gapsOf_len ns
    have hD6 : H2 D = some (.lst ((gapsOf ns).map V.int)) := by rw [hl] at hD5; exact hD5
    have hgl2 : ((gapsOf ns).map V.int).length = ns.length := by rw [List.length_map]; exact hgl
    refine ⟨_, rfl, D, _, rfl, SqL.of hD6, fun D2 hD2 => comp_rev (K := K) (a := D) (xs := (gapsOf ns).map V.int) rfl
      (fun i ys σ H3 => ∃ u : Option V, σ = [u] ∧ Same H2 H3 ∧ H3 D2 = some (.lst ys) ∧ ys = (((gapsOf ns).reverse.take i).filter fun g => decide (0 < g)).map V.int)
      ⟨none, rfl, same_new hD2 _, upd_same, rfl⟩ (fun i ys σ H3 _ ⟨_, _, z, _⟩ => SqL.of (z _ _ hD6)) ?_ ?_⟩
    · rintro i x ys σ H3 hi ⟨u, rfl, s6, hD7, rfl⟩
      rw [← List.map_reverse] at hi
      have hil : i < ((gapsOf ns).reverse.map V.int).length := (List.getElem?_eq_some_iff.mp hi).1
      have hil2 : i < (gapsOf ns).reverse.length := by rw [List.length_map] at hil; exact hil
      obtain rfl : x = V.int ((gapsOf ns).reverse.getD i 0) := by
        rw [List.getElem?_map, getD_of hil2] at hi
        exact (Option.some.inj hi).symm
      have step := take_succ_filter (fun g => decide (0 < g)) (gapsOf ns).reverse i ((gapsOf ns).reverse.getD i 0) (getD_of hil2)
      refine ⟨_, rfl, _, _, rfl, rfl, _, rfl, ?_⟩
      refine ite2 (fun c => ?_) (fun c => ?_)
      · refine ⟨_, rfl, hD7, ?_, _, rfl, same_upd s6 hD2, upd_same, ?_⟩
        · have z := List.length_filter_le (fun g : Int => decide (0 < g)) ((gapsOf ns).reverse.take i)
          rw [List.length_map]
          rw [List.length_take, List.length_reverse] at z
          exact small1000 (by omega)
        · rw [step, if_pos c, List.map_append]
          rfl
      · refine ⟨_, rfl, s6, hD7, ?_⟩
        rw [step, if_neg c, List.append_nil]
    · rintro ys σ H3 ⟨u, rfl, s6, hD7, rfl⟩
      refine q D2 H3 (s5.trans s6) (s5.free hD2) ?_
      have e : (gapsOf ns).reverse.take ((gapsOf ns).map V.int).length = (gapsOf ns).reverse := List.take_of_length_le (by rw [List.length_reverse, List.length_map]; exact Nat.le_refl _)
      rw [e] at hD7
      exact hD7


theorem ok_check_rodsX (T : Tx K mg f_beads d_beads f_row_of d_row_of f_check_places d_check_places f_quotient d_quotient f_check_rods d_check_rods f_share d_share f_parted d_parted f_heights_on d_heights_on f_turned d_turned f_lines_at d_lines_at f_hooks d_hooks f_line_hooks d_line_hooks f_fillings d_fillings f_product_to d_product_to f_lesser d_lesser f_without_rim d_without_rim f_ways_down d_ways_down f_mixes d_mixes f_ldrawn d_ldrawn f_lwhole d_lwhole f_lrow_by d_lrow_by f_lrefused d_lrefused c_BeadError c_NoRods) : FnOk P w K mg base (CX1 P w) 1 f_check_rods d_check_rods ["rods"] (spCheckRods c_NoRods) := by
  refine L3.Fun.okX T.F_check_rods sc_check_rods (fun vs H Q E h => ?_) (fun cdv A outer s H vs Q E hr h => ?_)
  · obtain ⟨r, rfl, _⟩ := h
    rfl
  obtain ⟨r, rfl, hE, q⟩ := h
  refine ⟨_, (pss_one (ps_if (PW.pt (pw_or (pt_cmpR op_lt (pv 0) pe_int (nomark _)) (pw_or1 (pt_cmpR op_gt (pv 0) pe_int (nomark _))))) (pss_one (ps_raise rfl T.C_NoRods T.x_NoRods (pa_cons pe_str pa_nil))) pss_nil)), ?_⟩
  refine ⟨_, rfl, _, _, rfl, rfl, _, rfl, ite2 (fun c => iteT ?_) (fun c => ?_)⟩
  · exact ⟨(by show 1 ≤ sizeLine; decide), hE (.inl (of_decide_eq_true c))⟩
  · have c' : ¬ r < 1 := fun z => c (decide_eq_true z)
    refine ⟨_, rfl, _, _, rfl, rfl, _, rfl, ite2 (fun c2 => ?_) (fun c2 => ?_)⟩
    · exact ⟨(by show 1 ≤ sizeLine; decide), hE (.inr (of_decide_eq_true c2))⟩
    · have c2' : ¬ 8 < r := fun z => c2 (decide_eq_true z)
      exact q (by omega) (by omega)


theorem ok_share (T : Tx K mg f_beads d_beads f_row_of d_row_of f_check_places d_check_places f_quotient d_quotient f_check_rods d_check_rods f_share d_share f_parted d_parted f_heights_on d_heights_on f_turned d_turned f_lines_at d_lines_at f_hooks d_hooks f_line_hooks d_line_hooks f_fillings d_fillings f_product_to d_product_to f_lesser d_lesser f_without_rim d_without_rim f_ways_down d_ways_down f_mixes d_mixes f_ldrawn d_ldrawn f_lwhole d_lwhole f_lrow_by d_lrow_by f_lrefused d_lrefused c_BeadError c_NoRods) : FnOk P w K mg base CX0 1 f_share d_share ["row", "rods"] (spShare K) := by
  refine T.F_share.ok sc_share (fun vs H Q E h => ?_) (fun cdv A outer s H vs Q E hr h => ?_)
  · obtain ⟨a, r, t, rfl, _⟩ := h
    rfl
  obtain ⟨a, r, t, rfl, hS, h1, h8, q⟩ := h
  refine ⟨_, (pss_one (ps_ret (pe_op op_fdiv (pe_op op_sub (pe_op op_add (pe_callB call_len_seq rfl T.z_len PySem.boot_len (pa_cons (pv 0) pa_nil)) (pv 1)) pe_int) (pv 1)))), ?_⟩
  have hl : (r.map V.int).length = r.length := List.length_map _
  refine ⟨_, rfl, a, _, rfl, .inl hS, _, rfl, _, _, rfl, rfl, _, _, rfl, rfl, _, rfl, _, _, rfl, rfl, ⟨by omega, by omega⟩, ?_⟩
  rw [hl]
  exact q
theorem ok_heights_on (T : Tx K mg f_beads d_beads f_row_of d_row_of f_check_places d_check_places f_quotient d_quotient f_check_rods d_check_rods f_share d_share f_parted d_parted f_heights_on d_heights_on f_turned d_turned f_lines_at d_lines_at f_hooks d_hooks f_line_hooks d_line_hooks f_fillings d_fillings f_product_to d_product_to f_lesser d_lesser f_without_rim d_without_rim f_ways_down d_ways_down f_mixes d_mixes f_ldrawn d_ldrawn f_lwhole d_lwhole f_lrow_by d_lrow_by f_lrefused d_lrefused c_BeadError c_NoRods) : FnOk P w K mg base CX0 1 f_heights_on d_heights_on ["places", "rods", "rod"] (spHOn K) := by
  refine T.F_heights_on.ok sc_heights_on (fun vs H Q E h => ?_) (fun cdv A outer s H vs Q E hr h => ?_)
  · obtain ⟨a, ns, t, k, rfl, _⟩ := h
    rfl
  obtain ⟨a, ns, t, k, rfl, hS, h1, h8, hlen, q⟩ := h
  refine ⟨_, (pss_one (ps_ret (pe_comp ["places", "rods", "rod"] ["place", "rod", "rods"] [none, some 2, some 1] (defScope s_heights_on) rfl (pi_list (pv 0)) (fun _ _ _ _ => (pg_name (i := 0) (show List.Nodup (["place", "rod", "rods"] : List Str) by decide +kernel) rfl (Or.inl rfl) (Or.inr rfl))) (fun _ _ _ _ => (pif_one (pt_cmpR op_eq (pe_op op_mod (pv 0) (pv 2)) (pv 1) (nomark _)))) (fun _ _ _ _ => (pe_op op_fdiv (pv 0) (pv 2)))))), ?_⟩
  have hl : (ns.map V.int).length = ns.length := List.length_map _
  refine ⟨_, rfl, a, rfl, ⟨_, hS⟩, fun D hD => comp_list (K := K) (a := a) (xs := ns.map V.int)
    (fun i ys σ H2 => ∃ u : Option V, σ = [u, some (.int k), some (.int t)] ∧ Same H H2 ∧ H2 D = some (.lst ys) ∧ ys = (hOn (ns.take i) t k).map V.int)
    ⟨none, rfl, same_new hD _, upd_same, rfl⟩ (fun i ys σ H2 _ ⟨_, _, z, _⟩ => z.seq hS) ?_ ?_⟩
  · rintro i y ys σ H2 hi ⟨u, rfl, s2, hD2, rfl⟩
    have hil : i < (ns.map V.int).length := (List.getElem?_eq_some_iff.mp hi).1
    rw [hl] at hil
    obtain rfl : y = V.int (ns.getD i 0) := by
      rw [List.getElem?_map, getD_of hil] at hi
      exact (Option.some.inj hi).symm
    refine ⟨_, rfl, _, rfl, _, _, rfl, rfl, (by show 0 < t; omega), _, rfl, rfl, _, rfl, ?_⟩
    refine ite2 (fun c => ?_) (fun c => ?_)
    · have c' : V.int (ns.getD i 0 % t) = V.int k := of_decide_eq_true c
      refine ⟨_, rfl, _, rfl, _, _, rfl, rfl, ⟨by omega, by omega⟩, hD2, ?_, _, rfl, same_upd s2 hD, upd_same, ?_⟩
      · have z := hOn_len (ns.take i) t k
        rw [List.length_map]
        rw [List.length_take] at z
        exact small1000 (by omega)
      · rw [hOn_succ hil, if_pos (V.int.inj c'), List.map_append]
        rfl
    · have c' : ¬ ns.getD i 0 % t = k := fun z => c (decide_eq_true (show V.int (ns.getD i 0 % t) = V.int k by rw [z]))
      refine ⟨_, rfl, s2, hD2, ?_⟩
      rw [hOn_succ hil, if_neg c', List.append_nil]
  · rintro ys σ H2 ⟨u, rfl, s2, hD2, rfl⟩
    rw [hl, List.take_length] at hD2
    exact q D H2 s2 hD hD2
theorem ok_parted (T : Tx K mg f_beads d_beads f_row_of d_row_of f_check_places d_check_places f_quotient d_quotient f_check_rods d_check_rods f_share d_share f_parted d_parted f_heights_on d_heights_on f_turned d_turned f_lines_at d_lines_at f_hooks d_hooks f_line_hooks d_line_hooks f_fillings d_fillings f_product_to d_product_to f_lesser d_lesser f_without_rim d_without_rim f_ways_down d_ways_down f_mixes d_mixes f_ldrawn d_ldrawn f_lwhole d_lwhole f_lrow_by d_lrow_by f_lrefused d_lrefused c_BeadError c_NoRods) : FnOk P w K mg base CX0 2 f_parted d_parted ["row", "rods"] (spParted K) := by
  have G_share : FnOk P w K mg base CX0 1 f_share d_share ["row", "rods"] (spShare K) := ok_share T
  have G_beads : FnOk P w K mg base CX0 1 f_beads d_beads ["row", "many"] (spBeads K) := ok_beads T
  have G_heights_on : FnOk P w K mg base CX0 1 f_heights_on d_heights_on ["places", "rods", "rod"] (spHOn K) := ok_heights_on T
  refine T.F_parted.ok sc_parted (fun vs H Q E h => ?_) (fun cdv A outer s H vs Q E hr h => ?_)
  · obtain ⟨a, r, t, rfl, _⟩ := h
    rfl
  obtain ⟨a, r, t, rfl, hS, h1, h8, hlen, q⟩ := h
  have hsm := share_mul r h1
  refine ⟨_, (pss_cons (ps_set (i := 2) sc_parted.nd rfl (Or.inr rfl) (pe_call G_beads (hr.mono (by decide)) rfl T.m_beads T.F_beads.kp T.b_beads .nil pass0 (pa_cons (pv 0) (pa_cons (pe_op op_mul (pe_call G_share (hr.mono (by decide)) rfl T.m_share T.F_share.kp T.b_share .nil pass0 (pa_cons (pv 0) (pa_cons (pv 1) pa_nil))) (pv 1)) pa_nil))))
      (pss_one (ps_ret (pe_comp ["row", "rods", "places"] ["rod", "places", "rods"] [none, some 2, some 1] (defScope s_parted) rfl (pi_range1 rfl T.z_range (pa_cons (pv 1) pa_nil)) (fun _ _ _ _ => (pg_name (i := 0) (show List.Nodup (["rod", "places", "rods"] : List Str) by decide +kernel) rfl (Or.inl rfl) (Or.inr rfl))) (fun _ _ _ _ => pif_nil) (fun _ _ _ _ => (pe_call G_heights_on (hr.mono (by decide)) rfl T.m_heights_on T.F_heights_on.kp T.b_heights_on .nil pass0 (pa_cons (pv 1) (pa_cons (pv 2) (pa_cons (pv 0) pa_nil))))))))), ?_⟩
  refine ⟨_, rfl, _, rfl, _, rfl, a, r, t, rfl, hS, h1, h8, _, rfl, _, _, rfl, rfl, .inr ⟨by omega, by omega⟩, a, r, shareM r t * t, rfl, hS, hsm.1, by omega, fun pl H1 s1 hpl hpl1 => ?_⟩
  refine ⟨_, rfl, _, rfl, by omega, by omega, fun D hD => comp_range (lo := 0) (n := t.toNat)
    (fun i ys σ H2 => ∃ (u : Option V) (ps : List Addr), σ = [u, some (.ref pl), some (.int t)] ∧ Same H1 H2 ∧ H2 D = some (.lst ys) ∧ ys = ps.map V.ref ∧ Made H1 H2 D ps i (fun k => hOn (beadsM r (shareM r t * t).toNat) t (0 + (k : Int))))
    ⟨none, [], rfl, same_new hD _, upd_same, rfl, Made.zero⟩ ?_ ?_⟩
  · rintro i ys σ H2 hi ⟨u, ps, rfl, s2, hD2, rfl, M⟩
    refine ⟨_, rfl, _, rfl, _, rfl, pl, _, t, 0 + (i : Int), rfl, SqL.of (s2 _ _ hpl1), h1, h8, by rw [beads_len]; omega, fun p H3 s3 hp hp3 => ?_⟩
    refine ⟨s3 _ _ hD2, ?_, _, ps ++ [p], rfl, same_upd (s2.trans s3) hD, upd_same, ?_, M.snoc s2 s3 hp hp3 ⟨_, hD2⟩⟩
    · rw [List.length_map, M.len]
      exact small1000 (by omega)
    · rw [List.map_append]
      rfl
  · rintro ys σ H2 ⟨u, ps, rfl, s2, hD2, rfl, M⟩
    refine q D ps H2 (s1.trans s2) (s1.free hD) ⟨⟨by rw [parted_len]; exact M.len, hD2, fun k hk => ?_⟩, fun x hx => s1.free (M.fresh x hx), M.nd, M.np⟩
    rw [parted_len] at hk
    rw [parted_at hk]
    exact M.each k hk

theorem ok_quotientX (T : Tx K mg f_beads d_beads f_row_of d_row_of f_check_places d_check_places f_quotient d_quotient f_check_rods d_check_rods f_share d_share f_parted d_parted f_heights_on d_heights_on f_turned d_turned f_lines_at d_lines_at f_hooks d_hooks f_line_hooks d_line_hooks f_fillings d_fillings f_product_to d_product_to f_lesser d_lesser f_without_rim d_without_rim f_ways_down d_ways_down f_mixes d_mixes f_ldrawn d_ldrawn f_lwhole d_lwhole f_lrow_by d_lrow_by f_lrefused d_lrefused c_BeadError c_NoRods) : FnOk P w K mg base (CX1 P w) 3 f_quotient d_quotient ["row", "rods"] (spQuotX K c_NoRods) := by
  have G_check_rods : FnOk P w K mg base (CX1 P w) 1 f_check_rods d_check_rods ["rods"] (spCheckRods c_NoRods) := ok_check_rodsX T
  have G_parted : FnOk P w K mg base CX0 2 f_parted d_parted ["row", "rods"] (spParted K) := ok_parted T
  have G_row_of : FnOk P w K mg base CX0 2 f_row_of d_row_of ["places"] (spRowOf K) := ok_row_of T
  refine L3.Fun.okX T.F_quotient sc_quotient (fun vs H Q E h => ?_) (fun cdv A outer s H vs Q E hr h => ?_)
  · obtain ⟨a, r, t, rfl, _⟩ := h
    rfl
  obtain ⟨a, r, t, rfl, hS, hrow, hlen, hE, q⟩ := h
  refine ⟨_, (pss_cons (ps_expr (pe_call G_check_rods (hr.mono (by decide)) rfl T.m_check_rods T.F_check_rods.kp T.b_check_rods .nil pass1 (pa_cons (pv 1) pa_nil)))
      (pss_one (ps_ret (pe_comp ["row", "rods"] ["heights"] [none] (defScope s_quotient) rfl (pi_list (pe_call G_parted (hr.mono (by decide)) rfl T.m_parted T.F_parted.kp T.b_parted .nil pass0 (pa_cons (pv 0) (pa_cons (pv 1) pa_nil)))) (fun _ _ _ _ => (pg_name (i := 0) (show List.Nodup (["heights"] : List Str) by decide +kernel) rfl (Or.inl rfl) (Or.inr rfl))) (fun _ _ _ _ => pif_nil) (fun _ _ _ _ => (pe_call G_row_of (hr.mono (by decide)) rfl T.m_row_of T.F_row_of.kp T.b_row_of .nil pass0 (pa_cons (pv 0) pa_nil))))))), ?_⟩
  refine ⟨_, rfl, t, rfl, hE, fun h1 h8 => ?_⟩
  have q := q h1 h8
  refine ⟨_, rfl, _, rfl, a, r, t, rfl, hS, h1, h8, hlen, fun pp ps H1 s1 hpp M => ?_⟩
  have hpl : (ps.map V.ref).length = t.toNat := by rw [List.length_map, M.rd.len, parted_len]
  refine ⟨pp, rfl, ⟨_, SqL.of M.rd.at'⟩, fun D hD => comp_list (K := K) (a := pp) (xs := ps.map V.ref)
    (fun i ys σ H2 => ∃ (u : Option V) (qs : List Addr), σ = [u] ∧ Same H1 H2 ∧ H2 D = some (.lst ys) ∧ ys = qs.map V.ref ∧ Made H1 H2 D qs i (fun k => rowOfM ((partedM r t).getD k [])))
    ⟨none, [], rfl, same_new hD _, upd_same, rfl, Made.zero⟩ (fun i ys σ H2 _ ⟨_, _, _, z, _⟩ => SqL.of (z _ _ M.rd.at')) ?_ ?_⟩
  · rintro i y ys σ H2 hi ⟨u, qs, rfl, s2, hD2, rfl, MQ⟩
    have hil : i < (ps.map V.ref).length := (List.getElem?_eq_some_iff.mp hi).1
    have hip : i < ps.length := by rw [List.length_map] at hil; exact hil
    rw [hpl] at hil
    obtain rfl : y = V.ref (ps.getD i 0) := by
      rw [List.getElem?_map, getA_of hip] at hi
      exact (Option.some.inj hi).symm
    obtain ⟨f1, f2, _⟩ := part_facts hrow h1 hil
    have row := s2 _ _ (M.rd.each i (by rw [parted_len]; exact hil))
    refine ⟨_, rfl, _, _, rfl, SqL.of row, f1, by omega, fun p H3 s3 hp hp3 => ?_⟩
    refine ⟨s3 _ _ hD2, ?_, _, qs ++ [p], rfl, same_upd (s2.trans s3) hD, upd_same, ?_, MQ.snoc s2 s3 hp hp3 ⟨_, hD2⟩⟩
    · rw [List.length_map, MQ.len]
      exact small1000 (by omega)
    · rw [List.map_append]
      rfl
  · rintro ys σ H2 ⟨u, qs, rfl, s2, hD2, rfl, MQ⟩
    rw [hpl] at MQ
    refine q D qs H2 (s1.trans s2) (s1.free hD) ⟨⟨by rw [quot_len]; exact MQ.len, hD2, fun k hk => ?_⟩, fun x hx => s1.free (MQ.fresh x hx), MQ.nd, MQ.np⟩
    rw [quot_len] at hk
    rw [quot_at hk]
    exact MQ.each k hk
theorem ok_without_rim (T : Tx K mg f_beads d_beads f_row_of d_row_of f_check_places d_check_places f_quotient d_quotient f_check_rods d_check_rods f_share d_share f_parted d_parted f_heights_on d_heights_on f_turned d_turned f_lines_at d_lines_at f_hooks d_hooks f_line_hooks d_line_hooks f_fillings d_fillings f_product_to d_product_to f_lesser d_lesser f_without_rim d_without_rim f_ways_down d_ways_down f_mixes d_mixes f_ldrawn d_ldrawn f_lwhole d_lwhole f_lrow_by d_lrow_by f_lrefused d_lrefused c_BeadError c_NoRods) : FnOk P w K mg base CX0 2 f_without_rim d_without_rim ["row", "line", "place"] (spWR K) := by
  have G_lines_at : FnOk P w K mg base CX0 1 f_lines_at d_lines_at ["row", "place"] (spLinesAt K) := ok_lines_at T
  refine T.F_without_rim.ok sc_without_rim (fun vs H Q E h => ?_) (fun cdv A outer s H vs Q E hr h => ?_)
  · obtain ⟨a, r, k, j, rfl, _⟩ := h
    rfl
  obtain ⟨a, r, k, j, rfl, hS, hlen, q⟩ := h
  have hs : sizeLine = 16777216 := sizeLine_eq
  refine ⟨_, (pss_cons (ps_set (i := 3) sc_without_rim.nd rfl (Or.inl rfl) (pe_op op_sub (pe_call G_lines_at (hr.mono (by decide)) rfl T.m_lines_at T.F_lines_at.kp T.b_lines_at .nil pass0 (pa_cons (pv 0) (pa_cons (pv 2) pa_nil))) pe_int))
      (pss_cons (ps_setC (i := 4) ["row", "line", "place", "last", "moved", "numbers"] ["number"] [none] (defScope s_without_rim) rfl sc_without_rim.nd rfl (Or.inl rfl) (pi_list (pe_slice sl_list (pv 0) (po_some (pe_op op_add (pv 1) pe_int)) (po_some (pe_op op_add (pv 3) pe_int)))) (fun _ _ _ _ => (pg_name (i := 0) (show List.Nodup (["number"] : List Str) by decide +kernel) rfl (Or.inl rfl) (Or.inr rfl))) (fun _ _ _ _ => pif_nil) (fun _ _ _ _ => (pe_op op_sub (pv 0) pe_int)))
      (pss_cons (ps_set (i := 5) sc_without_rim.nd rfl (Or.inl rfl) (pe_op op_cat (pe_op op_cat (pe_op op_cat (pe_slice sl_list (pv 0) po_none (po_some (pv 1))) (pv 4)) (pe_lst (pa_cons (pv 2) pa_nil))) (pe_slice sl_list (pv 0) (po_some (pe_op op_add (pv 3) pe_int)) po_none)))
      (pss_one (ps_ret (pe_tup (pa_cons (pe_comp ["row", "line", "place", "last", "moved", "numbers"] ["number"] [none] (defScope s_without_rim) rfl (pi_list (pv 5)) (fun _ _ _ _ => (pg_name (i := 0) (show List.Nodup (["number"] : List Str) by decide +kernel) rfl (Or.inl rfl) (Or.inr rfl))) (fun _ _ _ _ => (pif_one (pt_cmpR op_gt (pv 0) pe_int (nomark _)))) (fun _ _ _ _ => (pv 0))) (pa_cons (pe_op op_sub (pv 3) (pv 1)) pa_nil)))))))), ?_⟩
  refine ⟨_, rfl, _, rfl, a, r, j, rfl, hS, by omega, fun H1 s1 => ⟨_, _, rfl, rfl, ?_⟩⟩
  refine ⟨_, rfl, _, rfl, _, _, rfl, rfl, _, rfl, _, rfl, _, _, rfl, rfl, _, rfl, a, _, rfl, s1.seq hS, fun c hc => ?_⟩
  rw [cutV_int]
  have s2 := s1.trans (same_new hc (.lst ((cutI r (some (k + 1)) (some (((linesAt r j : Int) - 1) + 1))).map V.int)))
  have hl1 := cutI_len r (some (k + 1)) (some (((linesAt r j : Int) - 1) + 1))
  have hl2 := cutI_len r none (some k)
  have hl3 := cutI_len r (some (((linesAt r j : Int) - 1) + 1)) none
  refine ⟨c, rfl, ⟨_, SqL.of upd_same⟩, fun D hD => comp_less (SqL.of upd_same) (by omega) hD fun H2 s3 hD2 => ?_⟩
  have s4 := s2.trans s3
  refine ⟨_, rfl, _, rfl, _, rfl, a, _, rfl, s4.seq hS, fun c1 hc1 => ?_⟩
  rw [cutV_int]
  have s5 := same_new hc1 (.lst ((cutI r none (some k)).map V.int))
  refine ⟨_, rfl, c1, D, _, _, rfl, rfl, upd_same, s5 _ _ hD2, by simp only [List.length_map]; omega, fun g1 hg1 => ?_⟩
  have s6 := s5.trans (same_new hg1 (.lst ((cutI r none (some k)).map V.int ++ ((cutI r (some (k + 1)) (some (((linesAt r j : Int) - 1) + 1))).map fun n => n - 1).map V.int)))
  refine ⟨_, rfl, (by show 1 ≤ sizeLine; decide), fun z hz => ?_⟩
  have s7 := same_new hz (.lst [.int j])
  refine ⟨g1, z, _, _, rfl, rfl, s7 _ _ upd_same, upd_same, by simp only [List.length_map, List.length_append, List.length_singleton]; omega, fun g2 hg2 => ?_⟩
  have s8 := s7.trans (same_new hg2 (.lst ((cutI r none (some k)).map V.int ++ ((cutI r (some (k + 1)) (some (((linesAt r j : Int) - 1) + 1))).map fun n => n - 1).map V.int ++ [.int j])))
  have t8 := s4.trans (s6.trans s8)
  refine ⟨_, rfl, _, rfl, _, _, rfl, rfl, _, rfl, a, _, rfl, t8.seq hS, fun c2 hc2 => ?_⟩
  rw [cutV_int]
  have s9 := same_new hc2 (.lst ((cutI r (some (((linesAt r j : Int) - 1) + 1)) none).map V.int))
  refine ⟨g2, c2, _, _, rfl, rfl, s9 _ _ upd_same, upd_same, by simp only [List.length_map, List.length_append, List.length_singleton]; omega, fun g3 hg3 => ?_⟩
  have e3 : (cutI r none (some k)).map V.int ++ ((cutI r (some (k + 1)) (some (((linesAt r j : Int) - 1) + 1))).map fun n => n - 1).map V.int ++ [V.int j] ++ (cutI r (some (((linesAt r j : Int) - 1) + 1)) none).map V.int =
      (cutI r none (some k) ++ ((cutI r (some (k + 1)) (some (((linesAt r j : Int) - 1) + 1))).map fun n => n - 1) ++ [j] ++ cutI r (some (((linesAt r j : Int) - 1) + 1)) none).map V.int := by
    simp only [List.map_append, List.map_cons, List.map_nil]
  rw [e3]
  obtain ⟨L, hL⟩ : ∃ L, L = cutI r none (some k) ++ ((cutI r (some (k + 1)) (some (((linesAt r j : Int) - 1) + 1))).map fun n => n - 1) ++ [j] ++ cutI r (some (((linesAt r j : Int) - 1) + 1)) none := ⟨_, rfl⟩
  rw [← hL]
  have hLl : L.length ≤ 10000 := by
    rw [hL]
    simp only [List.length_map, List.length_append, List.length_singleton]
    omega
  have t9 := t8.trans (s9.trans (same_new hg3 (.lst (L.map V.int))))
  refine ⟨_, rfl, g3, rfl, ⟨_, SqL.of upd_same⟩, fun D2 hD2' => comp_pos (SqL.of upd_same) hLl hD2' fun H5 s10 hD5 => ?_⟩
  refine ⟨_, rfl, _, rfl, _, _, rfl, rfl, (by show 2 ≤ sizeLine; decide), fun t ht => ?_⟩
  have s11 := same_new ht (.tup [.ref D2, .int (((linesAt r j : Int) - 1) - k)])
  have hw1 : (wrM r k j).1 = L.filter (fun n => decide (0 < n)) := by rw [hL]; rfl
  have hw2 : (wrM r k j).2 = ((linesAt r j : Int) - 1) - k := rfl
  refine q t D2 _ (t9.trans (s10.trans s11)) (t9.free hD2') ?_ ?_
  · rw [hw1]
    exact s11 _ _ hD5
  · rw [hw2]
    exact upd_same


theorem ok_lesserX (T : Tx K mg f_beads d_beads f_row_of d_row_of f_check_places d_check_places f_quotient d_quotient f_check_rods d_check_rods f_share d_share f_parted d_parted f_heights_on d_heights_on f_turned d_turned f_lines_at d_lines_at f_hooks d_hooks f_line_hooks d_line_hooks f_fillings d_fillings f_product_to d_product_to f_lesser d_lesser f_without_rim d_without_rim f_ways_down d_ways_down f_mixes d_mixes f_ldrawn d_ldrawn f_lwhole d_lwhole f_lrow_by d_lrow_by f_lrefused d_lrefused c_BeadError c_NoRods) : FnOk P w K mg base (CX1 P w) 4 f_lesser d_lesser ["row", "rods"] (spLesserX K c_NoRods) := by
  have G_check_rods : FnOk P w K mg base (CX1 P w) 1 f_check_rods d_check_rods ["rods"] (spCheckRods c_NoRods) := ok_check_rodsX T
  have G_hooks : FnOk P w K mg base CX0 3 f_hooks d_hooks ["row"] (spHooks K) := ok_hooks T
  have G_without_rim : FnOk P w K mg base CX0 2 f_without_rim d_without_rim ["row", "line", "place"] (spWR K) := ok_without_rim T
  refine L3.Fun.okX T.F_lesser sc_lesser (fun vs H Q E h => ?_) (fun cdv A outer s H vs Q E hr h => ?_)
  · obtain ⟨a, r, t, rfl, _⟩ := h
    rfl
  obtain ⟨a, r, t, rfl, hS, hrow, hsum, hE, q⟩ := h
  refine ⟨_, (pss_cons (ps_expr (pe_call G_check_rods (hr.mono (by decide)) rfl T.m_check_rods T.F_check_rods.kp T.b_check_rods .nil pass1 (pa_cons (pv 1) pa_nil)))
      (pss_cons (ps_set (i := 2) sc_lesser.nd rfl (Or.inl rfl) (pe_lst pa_nil))
      (pss_cons (ps_for PassesOwn.leaving rfl (pi_enum rfl T.z_enumerate (pa_cons (pe_call G_hooks (hr.mono (by decide)) rfl T.m_hooks T.F_hooks.kp T.b_hooks .nil pass0 (pa_cons (pv 0) pa_nil)) pa_nil)) (pg_tup rfl (pgs_cons (pg_name (i := 3) sc_lesser.nd rfl (Or.inl rfl)) (pgs_cons (pg_name (i := 4) sc_lesser.nd rfl (Or.inl rfl)) pgs_nil))) (pss_one (ps_if (pt_cmpR op_in_seq (pv 1) (pv 4) (by with_unfolding_all rfl)) (pss_one (ps_expr (pe_bm PySem.F.plainAttrs_list PySem.F.slot_list_append PySem.F.type_list_append mt_append (pv 2) (pa_cons (pe_call G_without_rim (hr.mono (by decide)) rfl T.m_without_rim T.F_without_rim.kp T.b_without_rim .nil pass0 (pa_cons (pv 0) (pa_cons (pv 3) (pa_cons (pe_bm PySem.F.plainAttrs_list PySem.F.slot_list_index PySem.F.type_list_index mt_index (pv 4) (pa_cons (pv 1) pa_nil)) pa_nil)))) pa_nil)))) pss_nil)))
      (pss_one (ps_ret (pe_listRev rfl rfl T.z_list rfl T.z_reversed (pa_cons (pv 2) pa_nil))))))), ?_⟩
  refine ⟨_, rfl, t, rfl, hE, fun h1 h8 => ?_⟩
  have q := q h1 h8
  obtain ⟨z1, z2, z3⟩ := row_sizes hrow hsum
  refine ⟨(by show 0 ≤ sizeLine; decide), fun p hp => ?_⟩
  have s1 : Same H (upd H p (.lst [])) := same_new hp _
  refine ⟨_, rfl, a, r, rfl, s1.seq hS, hrow, by omega, by omega, fun hk hps H2 s2 hhk M2 => ?_⟩
  have hLn := hooksM_len r
  have hpsl : (hps.map V.ref).length = r.length := by rw [List.length_map, M2.rd.len, hLn]
  refine ⟨hk, rfl, ⟨_, SqL.of M2.rd.at'⟩, for_enum (K := K) (a := hk) (xs := hps.map V.ref)
    (fun i σ J => ∃ (u v : Option V) (ts qs : List Addr), σ = [some (.ref a), some (.int t), some (.ref p), u, v] ∧ Same H J ∧ LLr J hk hps (hooksM r) ∧ TL H J p ts qs (fL r t i))
    ⟨none, none, [], [], rfl, s1.trans s2, M2.rd, TL.nil (s2 _ _ upd_same)⟩ (fun i σ J _ ⟨_, _, _, _, _, _, z, _⟩ => SqL.of z.at') ?_ ?_⟩
  · rintro i y σ J tp hi ⟨u, v, ts, qs, rfl, sJ, lJ, M⟩ htp
    have hil : i < (hps.map V.ref).length := (List.getElem?_eq_some_iff.mp hi).1
    rw [hpsl] at hil
    have hip : i < hps.length := by rw [M2.rd.len, hLn]; exact hil
    obtain rfl : y = V.ref (hps.getD i 0) := by
      rw [List.getElem?_map, List.getElem?_eq_getElem hip] at hi
      rw [List.getD_eq_getElem?_getD, List.getElem?_eq_getElem hip]
      exact (Option.some.inj hi).symm
    have st := same_new htp (.tup [.int (i : Int), .ref (hps.getD i 0)])
    have hline := lJ.each i (by rw [hLn]; exact hil)
    rw [hooksM_at hil] at hline
    refine ⟨tp, _, rfl, SqT.of upd_same, rfl, _, _, rfl, _, _, rfl, rfl, ?_⟩
    refine ⟨_, rfl, _, rfl, _, _, rfl, .inl (SqL.of (st _ _ hline)), rfl, flat_ints _, _, rfl, ?_⟩
    rw [if_neg Bool.false_ne_true, inV_int]
    refine ite2 (fun c => ?_) (fun c => ?_)
    · have c' : t ∈ hookLine r i := of_decide_eq_true c
      have eg : gL r t i = [wrM r (i : Int) (idxI (hookLine r i) t : Int)] := if_pos c'
      refine ⟨_, rfl, .inl ⟨rfl, _, SqL.of (st _ _ M.rd.at')⟩, _, rfl, _, rfl, _, rfl, .inl ⟨rfl, _, SqL.of (st _ _ hline)⟩, _, rfl, _, _, t, idxI (hookLine r i) t, rfl, rfl, SqL.of (st _ _ hline), idx_lt c', idx_at c', fun m hm => idx_no hm, ?_⟩
      refine ⟨a, r, _, _, rfl, (sJ.trans st).seq hS, by omega, fun tt qq H3 s3 hqq hq3 ht3 => ?_⟩
      have hfl := fL_len r t i
      refine ⟨p, _, _, rfl, rfl, s3 _ _ (st _ _ M.rd.at'), by rw [List.length_map, M.rd.lt]; exact small1000 (by omega), ?_⟩
      have M' := M.snoc sJ (st.trans s3) (st.free hqq) hq3 ht3
      refine ⟨_, _, ts ++ [tt], qs ++ [qq], rfl, same_upd (sJ.trans (st.trans s3)) hp, ?_, ?_⟩
      · have l3 := lJ.same (st.trans s3)
        have hp3 := s3 _ _ (st _ _ M.rd.at')
        have hkp : hk ≠ p := (ne_of_none (upd_same (H := H) (a := p) (o := .lst [])) hhk).symm
        refine ⟨l3.len, by rw [upd_ne hkp]; exact l3.at', fun k hk' => ?_⟩
        have hfr := M2.fresh _ (getD_memA (ps := hps) (j := k) (by rw [l3.len]; exact hk'))
        rw [upd_ne (fun z => by rw [z, upd_same] at hfr; cases hfr)]
        exact l3.each k hk'
      · have e : ts.map V.ref ++ [V.ref tt] = (ts ++ [tt]).map V.ref := by rw [List.map_append]; rfl
        rw [fL_succ, eg, e]
        exact M'
    · have c' : ¬ t ∈ hookLine r i := fun z => c (decide_eq_true z)
      have eg : gL r t i = [] := if_neg c'
      refine ⟨_, _, ts, qs, rfl, sJ.trans st, lJ.same st, ?_⟩
      rw [fL_succ, eg, List.append_nil]
      exact ⟨M.rd.same st, M.fresh, M.nd, M.np⟩
  · rintro σ J ⟨u, v, ts, qs, rfl, sJ, lJ, M⟩
    rw [hpsl] at M
    refine ⟨_, rfl, p, _, rfl, SqL.of M.rd.at', fun l hl => ?_⟩
    exact q l ts.reverse qs.reverse _ (sJ.trans (same_new hl _)) (sJ.free hl) (M.rev (same_new hl _) hl upd_same)
theorem ok_lesser (T : Tx K mg f_beads d_beads f_row_of d_row_of f_check_places d_check_places f_quotient d_quotient f_check_rods d_check_rods f_share d_share f_parted d_parted f_heights_on d_heights_on f_turned d_turned f_lines_at d_lines_at f_hooks d_hooks f_line_hooks d_line_hooks f_fillings d_fillings f_product_to d_product_to f_lesser d_lesser f_without_rim d_without_rim f_ways_down d_ways_down f_mixes d_mixes f_ldrawn d_ldrawn f_lwhole d_lwhole f_lrow_by d_lrow_by f_lrefused d_lrefused c_BeadError c_NoRods) : FnOk P w K mg base CX0 4 f_lesser d_lesser ["row", "rods"] (spLesser K) :=
  L3.FnOk.to0 (ok_lesserX T) fun vs H Q E ⟨a, r, t, e, hS, hrow, hsum, h1, h8, q⟩ => ⟨a, r, t, e, hS, hrow, hsum, fun z => by rcases z with z | z <;> omega, fun _ _ => q⟩


theorem ok_product_to (T : Tx K mg f_beads d_beads f_row_of d_row_of f_check_places d_check_places f_quotient d_quotient f_check_rods d_check_rods f_share d_share f_parted d_parted f_heights_on d_heights_on f_turned d_turned f_lines_at d_lines_at f_hooks d_hooks f_line_hooks d_line_hooks f_fillings d_fillings f_product_to d_product_to f_lesser d_lesser f_without_rim d_without_rim f_ways_down d_ways_down f_mixes d_mixes f_ldrawn d_ldrawn f_lwhole d_lwhole f_lrow_by d_lrow_by f_lrefused d_lrefused c_BeadError c_NoRods) : FnOk P w K mg base CX0 1 f_product_to d_product_to ["number"] spProd := by
  refine T.F_product_to.ok sc_product_to (fun vs H Q E h => ?_) (fun cdv A outer s H vs Q E hr h => ?_)
  · obtain ⟨n, rfl, _⟩ := h
    rfl
  obtain ⟨n, rfl, h0, h1, q⟩ := h
  refine ⟨_, (pss_cons (ps_set (i := 1) sc_product_to.nd rfl (Or.inl rfl) pe_int)
      (pss_cons (ps_for PassesOwn.never rfl (pi_range2 rfl T.z_range (pa_cons pe_int (pa_cons (pe_op op_add (pv 0) pe_int) pa_nil))) (pg_name (i := 2) sc_product_to.nd rfl (Or.inl rfl)) (pss_one (ps_set (i := 1) sc_product_to.nd rfl (Or.inl rfl) (pe_op op_mul (pv 1) (pv 2)))))
      (pss_one (ps_ret (pv 1))))), ?_⟩
  refine ⟨_, rfl, _, _, rfl, rfl, 1, _, rfl, ⟨by decide, by decide, by omega, by omega⟩, for_range (lo := 1) (n := (n + 1 - 1).toNat)
    (fun i σ J => ∃ u : Option V, σ = [some (.int n), some (.int (factI i)), u] ∧ J = H) ⟨none, rfl, rfl⟩ ?_ ?_⟩
  · rintro i σ J hi ⟨u, rfl, rfl⟩
    refine ⟨_, rfl, _, rfl, _, _, rfl, rfl, .inr ⟨by omega, by omega⟩, ?_⟩
    refine ⟨some (.int (1 + (i : Int))), ?_, rfl⟩
    have e : factI i * (1 + (i : Int)) = factI (i + 1) := by rw [Int.add_comm]; rfl
    rw [← e]
    rfl
  · rintro σ J ⟨u, rfl, rfl⟩
    refine ⟨_, rfl, ?_⟩
    rw [show (n + 1 - 1).toNat = n.toNat by omega]
    exact q
theorem ok_fillings (T : Tx K mg f_beads d_beads f_row_of d_row_of f_check_places d_check_places f_quotient d_quotient f_check_rods d_check_rods f_share d_share f_parted d_parted f_heights_on d_heights_on f_turned d_turned f_lines_at d_lines_at f_hooks d_hooks f_line_hooks d_line_hooks f_fillings d_fillings f_product_to d_product_to f_lesser d_lesser f_without_rim d_without_rim f_ways_down d_ways_down f_mixes d_mixes f_ldrawn d_ldrawn f_lwhole d_lwhole f_lrow_by d_lrow_by f_lrefused d_lrefused c_BeadError c_NoRods) : FnOk P w K mg base CX0 4 f_fillings d_fillings ["row"] (spFill K) := by
  have G_hooks : FnOk P w K mg base CX0 3 f_hooks d_hooks ["row"] (spHooks K) := ok_hooks T
  have G_product_to : FnOk P w K mg base CX0 1 f_product_to d_product_to ["number"] spProd := ok_product_to T
  refine T.F_fillings.ok sc_fillings (fun vs H Q E h => ?_) (fun cdv A outer s H vs Q E hr h => ?_)
  · obtain ⟨a, r, rfl, _⟩ := h
    rfl
  obtain ⟨a, r, rfl, hS, hrow, hsum, q⟩ := h
  refine ⟨_, (pss_cons (ps_set (i := 1) sc_fillings.nd rfl (Or.inl rfl) pe_int)
      (pss_cons (ps_for PassesOwn.never rfl (pi_list (pe_call G_hooks (hr.mono (by decide)) rfl T.m_hooks T.F_hooks.kp T.b_hooks .nil pass0 (pa_cons (pv 0) pa_nil))) (pg_name (i := 2) sc_fillings.nd rfl (Or.inl rfl)) (pss_one (ps_for PassesOwn.never rfl (pi_list (pv 2)) (pg_name (i := 3) sc_fillings.nd rfl (Or.inl rfl)) (pss_one (ps_set (i := 1) sc_fillings.nd rfl (Or.inl rfl) (pe_op op_mul (pv 1) (pv 3)))))))
      (pss_one (ps_ret (pe_op op_fdivB (pe_call G_product_to (hr.mono (by decide)) rfl T.m_product_to T.F_product_to.kp T.b_product_to .nil pass0 (pa_cons (pe_callB (call_sum_ints rfl) rfl T.z_sum boot_sum (pa_cons (pv 0) pa_nil)) pa_nil)) (pv 1)))))), ?_⟩
  have hln := row_len hrow
  have hhd := row_head hrow
  have hel := row_sum hrow
  refine ⟨_, rfl, a, r, rfl, hS, hrow, by omega, by omega, fun hk hps H2 s2 hhk M2 => ?_⟩
  have hhl : (hps.map V.ref).length = r.length := by rw [List.length_map, M2.rd.len, hooksM_len]
  refine ⟨hk, rfl, ⟨_, SqL.of M2.rd.at'⟩, for_list (K := K) (a := hk) (xs := hps.map V.ref)
    (fun j σ J => ∃ u v : Option V, σ = [some (.ref a), some (.int (prodL ((hooksM r).take j).flatten)), u, v] ∧ J = H2)
    ⟨none, none, rfl, rfl⟩ (fun j σ J _ ⟨_, _, _, z⟩ => by rw [z]; exact SqL.of M2.rd.at') ?_ ?_⟩
  · rintro j y σ J hj ⟨u, v, rfl, rfl⟩
    have hjl : j < (hps.map V.ref).length := (List.getElem?_eq_some_iff.mp hj).1
    rw [hhl] at hjl
    have hjp : j < hps.length := by rw [M2.rd.len, hooksM_len]; exact hjl
    obtain rfl : y = V.ref (hps.getD j 0) := by
      rw [List.getElem?_map, getA_of hjp] at hj
      exact (Option.some.inj hj).symm
    have rowj := M2.rd.each j (by rw [hooksM_len]; exact hjl)
    rw [hooksM_at hjl] at rowj
    have hll : ((hookLine r j).map V.int).length = (hookLine r j).length := List.length_map _
    refine ⟨_, rfl, _, rfl, ⟨_, SqL.of rowj⟩, for_list (K := K) (a := hps.getD j 0) (xs := (hookLine r j).map V.int)
      (fun i σ J' => ∃ v : Option V, σ = [some (.ref a), some (.int (prodL (((hooksM r).take j).flatten ++ (hookLine r j).take i))), some (.ref (hps.getD j 0)), v] ∧ J' = J)
      ⟨_, by rw [List.take_zero, List.append_nil]; rfl, rfl⟩ (fun i σ J' _ ⟨_, _, z⟩ => by rw [z]; exact SqL.of rowj) ?_ ?_⟩
    · rintro i x σ J' hi ⟨v, rfl, rfl⟩
      have hil : i < ((hookLine r j).map V.int).length := (List.getElem?_eq_some_iff.mp hi).1
      rw [hll] at hil
      obtain rfl : x = V.int ((hookLine r j).getD i 0) := by
        rw [List.getElem?_map, getD_of hil] at hi
        exact (Option.some.inj hi).symm
      have hb := hook_bounds hrow (x := (hookLine r j).getD i 0) (List.mem_flatten.mpr ⟨hookLine r j, List.mem_map.mpr ⟨j, List.mem_range.mpr hjl, rfl⟩, by rw [← getD_elem hil]; exact List.getElem_mem _⟩)
      rw [← head_getD] at hb
      refine ⟨_, rfl, _, rfl, _, _, rfl, rfl, .inr ⟨by omega, by omega⟩, some (.int ((hookLine r j).getD i 0)), ?_, rfl⟩
      rw [List.take_succ_eq_append_getElem hil, ← List.append_assoc, prodL_snoc, getD_elem hil]
      rfl
    · rintro σ J' ⟨v, rfl, rfl⟩
      refine ⟨some (.ref (hps.getD j 0)), v, ?_, rfl⟩
      rw [hll, List.take_length, List.take_succ_eq_append_getElem (by rw [hooksM_len]; exact hjl), List.flatten_append]
      have e : (hooksM r)[j]'(by rw [hooksM_len]; exact hjl) = hookLine r j := by rw [← hooksM_at hjl, List.getD_eq_getElem?_getD, List.getElem?_eq_getElem (by rw [hooksM_len]; exact hjl)]; rfl
      rw [e]
      simp only [List.flatten_cons, List.flatten_nil, List.append_nil]
      try rfl
  · rintro σ J ⟨u, v, rfl, rfl⟩
    rw [hhl, List.take_of_length_le (by rw [hooksM_len]; exact Nat.le_refl _), hookP_flat]
    have b := fill_bd hrow hsum
    refine ⟨_, rfl, a, r, rfl, s2.seq hS, by omega, fun x hx => by have := hel.2 x hx; omega, _, rfl, by omega, by omega, _, rfl, _, _, rfl, rfl, ⟨b.2.2.1, pow_le2 (abs_lt (by omega) b.2.2.2) (by decide)⟩, ?_⟩
    exact q J s2
theorem ok_mixes (T : Tx K mg f_beads d_beads f_row_of d_row_of f_check_places d_check_places f_quotient d_quotient f_check_rods d_check_rods f_share d_share f_parted d_parted f_heights_on d_heights_on f_turned d_turned f_lines_at d_lines_at f_hooks d_hooks f_line_hooks d_line_hooks f_fillings d_fillings f_product_to d_product_to f_lesser d_lesser f_without_rim d_without_rim f_ways_down d_ways_down f_mixes d_mixes f_ldrawn d_ldrawn f_lwhole d_lwhole f_lrow_by d_lrow_by f_lrefused d_lrefused c_BeadError c_NoRods) : FnOk P w K mg base CX0 2 f_mixes d_mixes ["sizes"] (spMixes K) := by
  have G_product_to : FnOk P w K mg base CX0 1 f_product_to d_product_to ["number"] spProd := ok_product_to T
  refine T.F_mixes.ok sc_mixes (fun vs H Q E h => ?_) (fun cdv A outer s H vs Q E hr h => ?_)
  · obtain ⟨a, l, rfl, _⟩ := h
    rfl
  obtain ⟨a, l, rfl, hS, hlen, hb, hsum, q⟩ := h
  refine ⟨_, (pss_cons (ps_set (i := 1) sc_mixes.nd rfl (Or.inl rfl) (pe_call G_product_to (hr.mono (by decide)) rfl T.m_product_to T.F_product_to.kp T.b_product_to .nil pass0 (pa_cons (pe_callB (call_sum_ints rfl) rfl T.z_sum boot_sum (pa_cons (pv 0) pa_nil)) pa_nil)))
      (pss_cons (ps_for PassesOwn.never rfl (pi_list (pv 0)) (pg_name (i := 2) sc_mixes.nd rfl (Or.inl rfl)) (pss_one (ps_set (i := 1) sc_mixes.nd rfl (Or.inl rfl) (pe_op op_fdivB (pv 1) (pe_call G_product_to (hr.mono (by decide)) rfl T.m_product_to T.F_product_to.kp T.b_product_to .nil pass0 (pa_cons (pv 2) pa_nil))))))
      (pss_one (ps_ret (pv 1))))), ?_⟩
  have hn := (fact_all (l := l) fun x hx => (hb x hx).1).1
  have hl : (l.map V.int).length = l.length := List.length_map _
  refine ⟨_, rfl, a, l, rfl, hS, by omega, fun x hx => by have := hb x hx; omega, _, rfl, hn, by omega, ?_⟩
  refine ⟨_, rfl, a, rfl, ⟨_, hS⟩, for_list (K := K) (a := a) (xs := l.map V.int)
    (fun j σ J => ∃ u : Option V, σ = [some (.ref a), some (.int ((l.take j).foldl (fun w s => w / factI s.toNat) (factI l.sum.toNat))), u] ∧ J = H)
    ⟨none, rfl, rfl⟩ (fun j σ J _ ⟨_, _, z⟩ => by rw [z]; exact hS) ?_ ?_⟩
  · rintro j y σ J hj ⟨u, rfl, rfl⟩
    have hjl : j < (l.map V.int).length := (List.getElem?_eq_some_iff.mp hj).1
    rw [hl] at hjl
    obtain rfl : y = V.int (l.getD j 0) := by
      rw [List.getElem?_map, getD_of hjl] at hj
      exact (Option.some.inj hj).symm
    have bj := hb (l.getD j 0) (by rw [← getD_elem hjl]; exact List.getElem_mem _)
    have f0 := fact_pos (l.getD j 0).toNat
    have f1 := fact_small (l.getD j 0).toNat (by omega)
    refine ⟨_, rfl, _, rfl, _, rfl, bj.1, by omega, _, _, rfl, rfl, ⟨f0, pow_le2 (abs_lt (by omega) f1) (by decide)⟩, some (.int (l.getD j 0)), ?_, rfl⟩
    rw [List.take_succ_eq_append_getElem hjl, List.foldl_append, getD_elem hjl]
    rfl
  · rintro σ J ⟨u, rfl, rfl⟩
    rw [hl, List.take_length]
    exact ⟨_, rfl, q⟩
theorem ok_ways_downX (T : Tx K mg f_beads d_beads f_row_of d_row_of f_check_places d_check_places f_quotient d_quotient f_check_rods d_check_rods f_share d_share f_parted d_parted f_heights_on d_heights_on f_turned d_turned f_lines_at d_lines_at f_hooks d_hooks f_line_hooks d_line_hooks f_fillings d_fillings f_product_to d_product_to f_lesser d_lesser f_without_rim d_without_rim f_ways_down d_ways_down f_mixes d_mixes f_ldrawn d_ldrawn f_lwhole d_lwhole f_lrow_by d_lrow_by f_lrefused d_lrefused c_BeadError c_NoRods) : FnOk P w K mg base (CX1 P w) 5 f_ways_down d_ways_down ["row", "rods"] (spWaysX K c_NoRods) := by
  have G_quotient : FnOk P w K mg base (CX1 P w) 3 f_quotient d_quotient ["row", "rods"] (spQuotX K c_NoRods) := ok_quotientX T
  have G_mixes : FnOk P w K mg base CX0 2 f_mixes d_mixes ["sizes"] (spMixes K) := ok_mixes T
  have G_fillings : FnOk P w K mg base CX0 4 f_fillings d_fillings ["row"] (spFill K) := ok_fillings T
  refine L3.Fun.okX T.F_ways_down sc_ways_down (fun vs H Q E h => ?_) (fun cdv A outer s H vs Q E hr h => ?_)
  · obtain ⟨a, r, t, rfl, _⟩ := h
    rfl
  obtain ⟨a, r, t, rfl, hS, hrow, hsum, hE, q⟩ := h
  refine ⟨_, (pss_cons (ps_set (i := 2) sc_ways_down.nd rfl (Or.inl rfl) (pe_call G_quotient (hr.mono (by decide)) rfl T.m_quotient T.F_quotient.kp T.b_quotient .nil pass1 (pa_cons (pv 0) (pa_cons (pv 1) pa_nil))))
      (pss_cons (ps_set (i := 3) sc_ways_down.nd rfl (Or.inl rfl) (pe_call G_mixes (hr.mono (by decide)) rfl T.m_mixes T.F_mixes.kp T.b_mixes .nil pass0 (pa_cons (pe_comp ["row", "rods", "rows", "ways", "numbers"] ["numbers"] [none] (defScope s_ways_down) rfl (pi_list (pv 2)) (fun _ _ _ _ => (pg_name (i := 0) (show List.Nodup (["numbers"] : List Str) by decide +kernel) rfl (Or.inl rfl) (Or.inr rfl))) (fun _ _ _ _ => pif_nil) (fun _ _ _ _ => (pe_callB (call_sum_intsK (K := K) rfl rfl) rfl T.z_sum boot_sum (pa_cons (pv 0) pa_nil)))) pa_nil)))
      (pss_cons (ps_for PassesOwn.leaving rfl (pi_list (pv 2)) (pg_name (i := 4) sc_ways_down.nd rfl (Or.inl rfl)) (pss_one (ps_set (i := 3) sc_ways_down.nd rfl (Or.inl rfl) (pe_op op_mulB (pv 3) (pe_call G_fillings (hr.mono (by decide)) rfl T.m_fillings T.F_fillings.kp T.b_fillings .nil pass0 (pa_cons (pv 4) pa_nil))))))
      (pss_one (ps_ret (pv 3)))))), ?_⟩
  have hln := row_len hrow
  refine ⟨_, rfl, _, rfl, a, r, t, rfl, hS, hrow, by omega, hE, fun h1 h8 pq qs H5 t5 hpq MQ => ?_⟩
  obtain ⟨L, hL⟩ : ∃ L, L = quotM r t := ⟨_, rfl⟩
  have hL' : L.length = t.toNat := by rw [hL]; exact quot_len r t
  have qs60 : ∀ k : Nat, k < L.length → IsRow (L.getD k []) ∧ (L.getD k []).sum ≤ 60 := fun k hk => by
    rw [hL]
    exact ⟨quot_row hrow h1 (by omega), (quot_sums hrow h1 hsum (by omega)).2⟩
  have hQ : ∀ q ∈ L, IsRow q ∧ q.sum ≤ 60 := fun q hq => by
    obtain ⟨k, hk, e⟩ := List.getElem_of_mem hq
    have := qs60 k hk
    rw [List.getD_eq_getElem?_getD, List.getElem?_eq_getElem hk] at this
    rw [← e]; exact this
  have size := size_split hrow h1
  have csum := (row_sum (core_isRow (r := r) h1)).1
  have hnn : ∀ x ∈ sumsQ L, 0 ≤ x ∧ x ≤ 60 := fun x hx => by
    obtain ⟨q, hq, rfl⟩ := List.mem_map.mp hx
    have := row_head (hQ q hq).1
    have := (hQ q hq).2
    omega
  have hn0 := (fact_all (l := sumsQ L) fun x hx => (hnn x hx).1).1
  have hsq : (sumsQ L).sum ≤ 60 := by
    have e : (sumsQ L).sum = ((quotM r t).map fun q => q.sum).sum := by rw [hL]; rfl
    have := Int.mul_le_mul_of_nonneg_right h1 hn0
    rw [Int.one_mul] at this
    rw [← e] at size
    omega
  rw [← hL] at MQ
  have RQ6 := MQ.rd
  have hqsl : (qs.map V.ref).length = L.length := by rw [List.length_map, RQ6.len]
  refine ⟨_, rfl, pq, rfl, ⟨_, SqL.of RQ6.at'⟩, fun Ds hDs => comp_list (K := K) (a := pq) (xs := qs.map V.ref)
    (fun j ys σ J => ∃ (u : Option V), σ = [u] ∧ Same H5 J ∧ J Ds = some (.lst ys) ∧ ys = ((L.take j).map fun q => q.sum).map V.int)
    ⟨none, rfl, same_new hDs _, upd_same, rfl⟩ (fun j ys σ J _ ⟨_, _, z, _⟩ => SqL.of (z _ _ RQ6.at')) ?_ ?_⟩
  · rintro j y ys σ J hj ⟨u, rfl, sJ, hDJ, rfl⟩
    have hjl : j < (qs.map V.ref).length := (List.getElem?_eq_some_iff.mp hj).1
    have hjL : j < L.length := by rw [hqsl] at hjl; exact hjl
    have hjp : j < qs.length := by rw [RQ6.len]; exact hjL
    obtain rfl : y = V.ref (qs.getD j 0) := by
      rw [List.getElem?_map, getA_of hjp] at hj
      exact (Option.some.inj hj).symm
    have rowj := sJ _ _ (RQ6.each j hjL)
    have q60 := qs60 j hjL
    have qel := row_sum q60.1
    have qln := row_len q60.1
    refine ⟨_, rfl, _, L.getD j [], rfl, SqL.of rowj, by omega, fun x hx => by have := qel.2 x hx; omega, hDJ, by rw [List.length_map, List.length_map, List.length_take]; exact small1000 (by omega), _, rfl, same_upd sJ hDs, upd_same, ?_⟩
    have e : L.take (j + 1) = L.take j ++ [L.getD j []] := by
      rw [List.take_add_one, List.getD_eq_getElem?_getD, List.getElem?_eq_getElem hjL]
      rfl
    rw [e, List.map_append, List.map_append]
    rfl
  rintro ys σ J7 ⟨u8, rfl, t9, hDs7, rfl⟩
  rw [hqsl, List.take_length] at hDs7
  refine ⟨Ds, sumsQ L, rfl, SqL.of hDs7, by unfold sumsQ; rw [List.length_map]; omega, hnn, hsq, ?_⟩
  have RQ7 := RQ6.same t9
  have s7 := t5.trans t9
  have mb := mix_bd (fun x hx => (hnn x hx).1) hsq
  refine ⟨_, rfl, pq, rfl, ⟨_, SqL.of RQ7.at'⟩, for_list (K := K) (a := pq) (xs := qs.map V.ref)
    (fun j σ J => ∃ u : Option V, σ = [some (.ref a), some (.int t), some (.ref pq), some (.int ((L.take j).foldl (fun w q => w * fillM q) (mixM (sumsQ L)))), u] ∧ Same J7 J)
    ⟨none, rfl, fun _ _ z => z⟩ (fun j σ J _ ⟨_, _, z⟩ => SqL.of (z _ _ RQ7.at')) ?_ ?_⟩
  · rintro j y σ J hj ⟨u, rfl, sJ⟩
    have hjl : j < (qs.map V.ref).length := (List.getElem?_eq_some_iff.mp hj).1
    have hjL : j < L.length := by rw [hqsl] at hjl; exact hjl
    have hjp : j < qs.length := by rw [RQ6.len]; exact hjL
    obtain rfl : y = V.ref (qs.getD j 0) := by
      rw [List.getElem?_map, getA_of hjp] at hj
      exact (Option.some.inj hj).symm
    have rowj := sJ _ _ (RQ7.each j hjL)
    have q60 := qs60 j hjL
    have fb := fill_bd q60.1 q60.2
    have wb := way_bd hQ (abs_lt (k := 273) (by omega) mb.2) j
    refine ⟨_, rfl, _, rfl, _, L.getD j [], rfl, SqL.of rowj, q60.1, q60.2, fun J2 s2 => ?_⟩
    refine ⟨_, _, rfl, rfl, ⟨pow_le2 wb (by omega), pow_le2 (abs_lt (by omega) fb.2.1) (by decide)⟩, some (.ref (qs.getD j 0)), ?_, sJ.trans s2⟩
    have e : L.take (j + 1) = L.take j ++ [L.getD j []] := by
      rw [List.take_add_one, List.getD_eq_getElem?_getD, List.getElem?_eq_getElem hjL]
      rfl
    rw [e, List.foldl_append]
    rfl
  · rintro σ J ⟨u, rfl, sJ⟩
    rw [hqsl, List.take_length]
    have q' := q h1 h8 J (s7.trans sJ)
    unfold wayM at q'
    rw [← hL] at q'
    exact ⟨_, rfl, q'⟩
theorem ok_ways_down (T : Tx K mg f_beads d_beads f_row_of d_row_of f_check_places d_check_places f_quotient d_quotient f_check_rods d_check_rods f_share d_share f_parted d_parted f_heights_on d_heights_on f_turned d_turned f_lines_at d_lines_at f_hooks d_hooks f_line_hooks d_line_hooks f_fillings d_fillings f_product_to d_product_to f_lesser d_lesser f_without_rim d_without_rim f_ways_down d_ways_down f_mixes d_mixes f_ldrawn d_ldrawn f_lwhole d_lwhole f_lrow_by d_lrow_by f_lrefused d_lrefused c_BeadError c_NoRods) : FnOk P w K mg base CX0 5 f_ways_down d_ways_down ["row", "rods"] (spWays K) :=
  L3.FnOk.to0 (ok_ways_downX T) fun vs H Q E ⟨a, r, t, e, hS, hrow, hsum, h1, h8, q⟩ => ⟨a, r, t, e, hS, hrow, hsum, fun z => by rcases z with z | z <;> omega, fun _ _ => q⟩

theorem ok_lrefused (T : Tx K mg f_beads d_beads f_row_of d_row_of f_check_places d_check_places f_quotient d_quotient f_check_rods d_check_rods f_share d_share f_parted d_parted f_heights_on d_heights_on f_turned d_turned f_lines_at d_lines_at f_hooks d_hooks f_line_hooks d_line_hooks f_fillings d_fillings f_product_to d_product_to f_lesser d_lesser f_without_rim d_without_rim f_ways_down d_ways_down f_mixes d_mixes f_ldrawn d_ldrawn f_lwhole d_lwhole f_lrow_by d_lrow_by f_lrefused d_lrefused c_BeadError c_NoRods) : FnOk P w K mg base CX0 6 f_lrefused d_lrefused ["row", "rods"] (spRefused16 K) := by
  have X_ways_down : FnOk P w K mg base (CX1 P w) 5 f_ways_down d_ways_down ["row", "rods"] (spWaysX K c_NoRods) := ok_ways_downX T
  refine T.F_lrefused.ok sc_lrefused (fun vs H Q E h => ?_) (fun cdv A outer s H vs Q E hr h => ?_)
  · obtain ⟨a, r, t, rfl, _⟩ := h
    rfl
  obtain ⟨a, r, t, rfl, hS, hrow, hsum, bad, q⟩ := h
  refine ⟨_, (pss_cons (ps_try (i := 2) rfl rfl (pxs_one (px_expr (px_call X_ways_down (hr.mono (by decide)) rfl T.m_ways_down T.F_ways_down.kp T.b_ways_down .nil (pa_cons (pv 0) (pa_cons (pv 1) pa_nil))))) rfl T.C_NoRods sc_lrefused.nd rfl rfl (fun _ => (pss_one (ps_ret (pe_callB (call_isinstEK (K := K) rfl) rfl T.z_isinstance boot_isinstance (pa_cons (pv 2) (pa_cons (pe_glob (v := .ref c_BeadError) rfl T.C_BeadError rfl) pa_nil)))))))
      (pss_one (ps_ret pe_bl))), ?_⟩
  refine ⟨_, rfl, _, rfl, a, r, t, rfl, hS, hrow, hsum, fun _ => ?_, fun h1 h8 => by rcases bad with z | z <;> omega⟩
  refine ⟨c_NoRods, rfl, T.e_NoRods_NoRods, fun e he => ?_⟩
  have s1 : Same H (upd H e (excO e c_NoRods)) := same_new he _
  refine ⟨_, rfl, e, c_NoRods, _, true, rfl, upd_same, T.K_NoRods, .inl ⟨_, rfl⟩, T.i_NoRods_BeadError, ?_⟩
  exact q _ s1
theorem ok_law {f_law : Addr} {d_law : FuncData} (F : Fun K "law" "law" s_law f_law d_law) (T : Tx K mg f_beads d_beads f_row_of d_row_of f_check_places d_check_places f_quotient d_quotient f_check_rods d_check_rods f_share d_share f_parted d_parted f_heights_on d_heights_on f_turned d_turned f_lines_at d_lines_at f_hooks d_hooks f_line_hooks d_line_hooks f_fillings d_fillings f_product_to d_product_to f_lesser d_lesser f_without_rim d_without_rim f_ways_down d_ways_down f_mixes d_mixes f_ldrawn d_ldrawn f_lwhole d_lwhole f_lrow_by d_lrow_by f_lrefused d_lrefused c_BeadError c_NoRods) : FnOk P w K mg base CX0 9 f_law d_law ["script"] (spLaw K) := by
  have G_ldrawn : FnOk P w K mg base CX0 1 f_ldrawn d_ldrawn ["script", "k", "many"] (spDrawn K) := ok_ldrawn T
  have G_lrow_by : FnOk P w K mg base CX0 2 f_lrow_by d_lrow_by ["script", "base", "most"] (spRowBy K) := ok_lrow_by T
  have G_lwhole : FnOk P w K mg base CX0 1 f_lwhole d_lwhole ["found"] spWhole := ok_lwhole T
  have G_lesser : FnOk P w K mg base CX0 4 f_lesser d_lesser ["row", "rods"] (spLesser K) := ok_lesser T
  have G_fillings : FnOk P w K mg base CX0 4 f_fillings d_fillings ["row"] (spFill K) := ok_fillings T
  have G_ways_down : FnOk P w K mg base CX0 5 f_ways_down d_ways_down ["row", "rods"] (spWays K) := ok_ways_down T
  have G_lrefused : FnOk P w K mg base CX0 6 f_lrefused d_lrefused ["row", "rods"] (spRefused16 K) := ok_lrefused T
  refine F.ok sc_law (fun vs H Q E h => ?_) (fun cdv A outer s H vs Q E hr h => ?_)
  · obtain ⟨a, ns, rfl, _⟩ := h
    rfl
  obtain ⟨a, ns, rfl, hS, h63, q⟩ := h
  have hu := hr.units
  have hs : sizeLine = 16777216 := sizeLine_eq
  refine ⟨_, (pss_cons (ps_set (i := 1) sc_law.nd rfl (Or.inl rfl) (pe_call G_lrow_by (hr.mono (by decide)) rfl T.m_lrow_by T.F_lrow_by.kp T.b_lrow_by .nil pass0 (pa_cons (pv 0) (pa_cons pe_int (pa_cons pe_int pa_nil)))))
      (pss_cons (ps_set (i := 2) sc_law.nd rfl (Or.inr rfl) (pe_op op_add pe_int (pe_call G_ldrawn (hr.mono (by decide)) rfl T.m_ldrawn T.F_ldrawn.kp T.b_ldrawn .nil pass0 (pa_cons (pv 0) (pa_cons pe_int (pa_cons pe_int pa_nil))))))
      (pss_cons (ps_set (i := 3) sc_law.nd rfl (Or.inl rfl) (pe_callTy call_list_of rfl T.z_list boot_list (pa_cons (pv 1) pa_nil)))
      (pss_cons (ps_set (i := 4) sc_law.nd rfl (Or.inl rfl) (pe_call G_ways_down (hr.mono (by decide)) rfl T.m_ways_down T.F_ways_down.kp T.b_ways_down .nil pass0 (pa_cons (pv 3) (pa_cons (pv 2) pa_nil))))
      (pss_cons (ps_set (i := 5) sc_law.nd rfl (Or.inl rfl) (pe_call G_lesser (hr.mono (by decide)) rfl T.m_lesser T.F_lesser.kp T.b_lesser .nil pass0 (pa_cons (pv 3) (pa_cons (pv 2) pa_nil))))
      (pss_cons (ps_set (i := 6) sc_law.nd rfl (Or.inl rfl) (pe_callB (call_sum_any rfl) rfl T.z_sum boot_sum (pa_cons (pe_comp ["script", "row", "rods", "handed", "found", "some", "due"] ["one", "rods"] [none, some 2] (defScope s_law) rfl (pi_list (pv 5)) (fun _ _ _ _ => (pg_name (i := 0) (show List.Nodup (["one", "rods"] : List Str) by decide +kernel) rfl (Or.inl rfl) (Or.inr rfl))) (fun _ _ _ _ => pif_nil) (fun _ _ _ _ => (pe_call G_ways_down (hr.mono (by decide)) rfl T.m_ways_down T.F_ways_down.kp T.b_ways_down .nil pass0 (pa_cons (pe_ix (ix_tupK (K := K) rfl) (pv 0) pe_int (fun _ _ => rfl)) (pa_cons (pv 1) pa_nil))))) pa_nil)))
      (pss_cons (ps_mid (ps_if (pt_cmpR op_eq (pe_callB call_len_seq rfl T.z_len PySem.boot_len (pa_cons (pv 5) pa_nil)) pe_int (nomark _)) (pss_one (ps_set (i := 6) sc_law.nd rfl (Or.inl rfl) pe_int)) pss_nil))
      (pss_cons (ps_if (PW.pt (pw_or (pt_not (pt_val (pe_call G_lwhole (hr.mono (by decide)) rfl T.m_lwhole T.F_lwhole.kp T.b_lwhole .nil pass0 (pa_cons (pv 4) pa_nil)))) (pw_or (pt_cmpR op_ne (pv 4) (pv 6) (nomark _)) (pw_or1 (pt_cmpR (op_neL hu) (pv 3) (pv 1) (nomark _)))))) (pss_one (ps_ret pe_bl)) pss_nil)
      (pss_cons (ps_if (pt_cmpR op_ne (pe_call G_ways_down (hr.mono (by decide)) rfl T.m_ways_down T.F_ways_down.kp T.b_ways_down .nil pass0 (pa_cons (pv 3) (pa_cons pe_int pa_nil))) (pe_call G_fillings (hr.mono (by decide)) rfl T.m_fillings T.F_fillings.kp T.b_fillings .nil pass0 (pa_cons (pv 3) pa_nil)) (nomark _)) (pss_one (ps_ret pe_bl)) pss_nil)
      (pss_one (ps_ret (pe_and (pe_call G_lrefused (hr.mono (by decide)) rfl T.m_lrefused T.F_lrefused.kp T.b_lrefused .nil pass0 (pa_cons (pv 3) (pa_cons pe_int pa_nil))) (pe_one (pe_call G_lrefused (hr.mono (by decide)) rfl T.m_lrefused T.F_lrefused.kp T.b_lrefused .nil pass0 (pa_cons (pv 3) (pa_cons (pe_op op_add pe_int (pe_call G_ldrawn (hr.mono (by decide)) rfl T.m_ldrawn T.F_ldrawn.kp T.b_ldrawn .nil pass0 (pa_cons (pv 0) (pa_cons pe_int (pa_cons (pe_op op_pow pe_int pe_int) pa_nil))))) pa_nil)))))))))))))))), ?_⟩
  refine ⟨_, rfl, a, ns, 10, 60, rfl, hS, h63, by decide, by decide, by decide, by decide, fun pr r H1 s1 hpr hrow hsum hlen hpr1 => ?_⟩
  refine ⟨_, rfl, a, ns, 100, 8, rfl, s1.seq hS, h63, by decide, by decide, by decide, fun d d0 d1 => ⟨_, _, rfl, rfl, ?_⟩⟩
  obtain ⟨t, ht⟩ : ∃ t : Int, t = 1 + d := ⟨_, rfl⟩
  dsimp only
  rw [← ht]
  have h1 : 1 ≤ t := by omega
  have h8 : t ≤ 8 := by omega
  clear ht d0 d1
  refine ⟨_, rfl, pr, _, rfl, .inl (SqL.of hpr1), fun hd hhd => ?_⟩
  have s2 := same_new hhd (.lst (r.map V.int))
  obtain ⟨B, hB⟩ : ∃ B, B = upd H1 hd (.lst (r.map V.int)) := ⟨_, rfl⟩
  have hBl : B hd = some (.lst (r.map V.int)) := by rw [hB]; exact upd_same
  rw [← hB] at s2 ⊢
  have sB := s1.trans s2
  have hBr := s2 _ _ hpr1
  clear hB s2
  refine ⟨_, rfl, _, rfl, hd, r, t, rfl, SqL.of hBl, hrow, hsum, h1, h8, fun H2 t2 => ?_⟩
  refine ⟨_, rfl, _, rfl, hd, r, t, rfl, SqL.of (t2 _ _ hBl), hrow, by omega, h1, h8, fun p ts qs H3 t3 hp M => ?_⟩
  have R := M.rd
  have hlf := lesser_few r t
  have hlt : (ts.map V.ref).length = (lesserM r t).length := by rw [List.length_map, R.lt]
  have t23 := t2.trans t3
  refine ⟨_, rfl, p, rfl, ⟨_, SqL.of R.at'⟩, fun Ds hDs => comp_list (K := K) (a := p) (xs := ts.map V.ref)
    (fun j ys σ J => ∃ (u : Option V), σ = [u, some (.int t)] ∧ Same H3 J ∧ J Ds = some (.lst ys) ∧ ys = (((lesserM r t).take j).map fun x => wayM x.1 t).map V.int)
    ⟨none, rfl, same_new hDs _, upd_same, rfl⟩ (fun j ys σ J _ ⟨_, _, z, _⟩ => SqL.of (z _ _ R.at')) ?_ ?_⟩
  · rintro j y ys σ J hj ⟨u, rfl, sJ, hDJ, rfl⟩
    have hjl : j < (ts.map V.ref).length := (List.getElem?_eq_some_iff.mp hj).1
    rw [hlt] at hjl
    have hjp : j < ts.length := by rw [R.lt]; exact hjl
    obtain rfl : y = V.ref (ts.getD j 0) := by
      rw [List.getElem?_map, getA_of hjp] at hj
      exact (Option.some.inj hj).symm
    have tup := sJ _ _ (R.tup j hjl)
    have row := sJ _ _ (R.row j hjl)
    obtain ⟨legs, _, _, RR⟩ := rim_of hrow (getD_memT hjl)
    refine ⟨_, rfl, _, _, _, _, rfl, rfl, SqT.of tup, rfl, _, rfl, _, _, t, rfl, SqL.of row, RR.row, by rw [RR.sum]; omega, h1, h8, fun J2 s2 => ?_⟩
    refine ⟨s2 _ _ hDJ, by rw [List.length_map, List.length_map, List.length_take]; exact small1000 (by omega), _, rfl, same_upd (sJ.trans s2) hDs, upd_same, ?_⟩
    have e : (lesserM r t).take (j + 1) = (lesserM r t).take j ++ [(lesserM r t).getD j ([], 0)] := by
      rw [List.take_add_one, List.getD_eq_getElem?_getD, List.getElem?_eq_getElem hjl]
      rfl
    rw [e, List.map_append, List.map_append]
    rfl
  rintro ys σ J7 ⟨u8, rfl, t9, hDs7, rfl⟩
  rw [hlt, List.take_length] at hDs7
  refine ⟨Ds, _, rfl, SqL.of hDs7, ?_⟩
  have s7 := t23.trans t9
  have R7 := R.same t9
  refine ⟨fun σ' J' => σ' = [some (.ref a), some (.ref pr), some (.int t), some (.ref hd), some (.int (wayM r t)), some (.ref p), some (.int (wayM r t))] ∧ J' = J7, ?_, ?_⟩
  · refine ⟨_, rfl, p, _, rfl, .inl (SqL.of R7.at'), rfl, _, rfl, ?_⟩
    rw [hlt]
    refine ite2 (fun c => ?_) (fun c => ?_)
    · have c' : (((lesserM r t).length : Nat) : Int) = 0 := V.int.inj (of_decide_eq_true c)
      have e := way_none hrow h1 (List.length_eq_zero_iff.mp (show (lesserM r t).length = 0 by omega))
      refine ⟨?_, rfl⟩
      rw [e]
      rfl
    · have c' : lesserM r t ≠ [] := fun z => c (decide_eq_true (by rw [z]; rfl))
      have e := way_rec hrow h1 c'
      refine ⟨?_, rfl⟩
      rw [← e]
      rfl
  rintro σ' J' ⟨rfl, rfl⟩
  refine ⟨_, rfl, _, rfl, _, rfl, iteF ?_⟩
  refine ⟨_, rfl, _, rfl, rfl, _, rfl, iteC (by rw [decide_eq_true rfl]; rfl) ?_⟩
  refine ⟨_, rfl, _, rfl, hd, pr, r, r, rfl, rfl, SqL.of (s7 _ _ hBl), SqL.of (s7 _ _ hBr), _, rfl, iteC (by rw [decide_eq_true rfl]; rfl) ?_⟩
  refine ⟨_, rfl, hd, r, 1, rfl, SqL.of (s7 _ _ hBl), hrow, hsum, by decide, by decide, fun J8 t8 => ?_⟩
  have s8 := s7.trans t8
  refine ⟨_, rfl, hd, r, rfl, SqL.of (s8 _ _ hBl), hrow, hsum, fun J9 t9' => ?_⟩
  have s9 := s8.trans t9'
  rw [way_one hrow]
  refine ⟨rfl, _, rfl, iteC (by rw [decide_eq_true rfl]; rfl) ?_⟩
  refine ⟨_, rfl, hd, r, 0, rfl, SqL.of (s9 _ _ hBl), hrow, hsum, .inl (by decide), fun J10 t10 => ⟨_, rfl, iteT ?_⟩⟩
  have s10 := s9.trans t10
  refine ⟨_, rfl, _, rfl, _, _, rfl, rfl, ⟨by decide, by decide, by decide⟩, a, ns, 101, _, rfl, (sB.trans s10).seq hS, h63, by decide, by decide, by decide, fun x x0 x1 => ?_⟩
  refine ⟨_, _, rfl, rfl, hd, r, _, rfl, SqL.of (s10 _ _ hBl), hrow, hsum, .inr (by omega), fun J11 t11 => ?_⟩
  exact q _

end
theorem len1 {α : Type} {P : List α → Prop} : (∀ a0 : α, P [a0]) → ∀ us : List α, us.length = 1 → P us := by
  intro k us h
  match us, h with
  | [a0], _ => exact k a0
theorem len2 {α : Type} {P : List α → Prop} : (∀ a0 a1 : α, P [a0, a1]) → ∀ us : List α, us.length = 2 → P us := by
  intro k us h
  match us, h with
  | [a0, a1], _ => exact k a0 a1
theorem len3 {α : Type} {P : List α → Prop} : (∀ a0 a1 a2 : α, P [a0, a1, a2]) → ∀ us : List α, us.length = 3 → P us := by
  intro k us h
  match us, h with
  | [a0, a1, a2], _ => exact k a0 a1 a2
theorem all_mk {l : PySem.W.OpenLaw} {w : World} {K : PySem.W.Frag} {h : Heap} {mg : Str → Option Value} {fa f1 f2 f3 f4 f5 f6 f7 f8 f9 f10 f11 f12 f13 f14 f15 f16 f17 f18 f19 f20 f21 f22 f23 : Addr} (X : K.In h) (G : h.Ns mainGlobals mg) (hfa : mg "law" = some (.ref fa))
    {od1 an1 od2 an2 od3 an3 od4 an4 od5 an5 od6 an6 od7 an7 od8 an8 od9 an9 od10 an10 od11 an11 od12 an12 od13 an13 od14 an14 od15 an15 od16 an16 od17 an17 od18 an18 od19 an19 od20 an20 od21 an21 od22 an22 od23 an23 : Option Addr} {sl1 sl2 sl3 sl4 sl5 sl6 sl7 sl8 sl9 sl10 sl11 sl12 sl13 sl14 sl15 sl16 sl17 sl18 sl19 sl20 sl21 sl22 sl23 : Array (Option Value)} {oc1 kV1 dc1 pm1 cd1 ct1 oc2 kV2 dc2 pm2 cd2 ct2 oc3 kV3 dc3 pm3 cd3 ct3 oc4 kV4 dc4 pm4 cd4 ct4 oc5 kV5 dc5 pm5 cd5 ct5 oc6 kV6 dc6 pm6 cd6 ct6 oc7 kV7 dc7 pm7 cd7 ct7 oc8 kV8 dc8 pm8 cd8 ct8 oc9 kV9 dc9 pm9 cd9 ct9 oc10 kV10 dc10 pm10 cd10 ct10 oc11 kV11 dc11 pm11 cd11 ct11 oc12 kV12 dc12 pm12 cd12 ct12 oc13 kV13 dc13 pm13 cd13 ct13 oc14 kV14 dc14 pm14 cd14 ct14 oc15 kV15 dc15 pm15 cd15 ct15 oc16 kV16 dc16 pm16 cd16 ct16 oc17 kV17 dc17 pm17 cd17 ct17 oc18 kV18 dc18 pm18 cd18 ct18 oc19 kV19 dc19 pm19 cd19 ct19 oc20 kV20 dc20 pm20 cd20 ct20 oc21 kV21 dc21 pm21 cd21 ct21 oc22 kV22 dc22 pm22 cd22 ct22 oc23 kV23 dc23 pm23 cd23 ct23 : Value}
    (a1 : PySem.W.nsIn K mainGlobals "beads" = some (some (.ref f1))) (l1 : K.lookup f1 = some ⟨oc1, od1, .func (PySem.W.fnOf "beads" "beads" (defArgs s_beads) (defBody s_beads) (defScope s_beads) .none kV1 dc1 pm1 an1 cd1 ct1), sl1⟩) (c1 : PySem.W.codeIn K cd1 "beads" = true) (k1 : PySem.W.keepIn K (.ref f1) = true)
    (a2 : PySem.W.nsIn K mainGlobals "row_of" = some (some (.ref f2))) (l2 : K.lookup f2 = some ⟨oc2, od2, .func (PySem.W.fnOf "row_of" "row_of" (defArgs s_row_of) (defBody s_row_of) (defScope s_row_of) .none kV2 dc2 pm2 an2 cd2 ct2), sl2⟩) (c2 : PySem.W.codeIn K cd2 "row_of" = true) (k2 : PySem.W.keepIn K (.ref f2) = true)
    (a3 : PySem.W.nsIn K mainGlobals "check_places" = some (some (.ref f3))) (l3 : K.lookup f3 = some ⟨oc3, od3, .func (PySem.W.fnOf "check_places" "check_places" (defArgs s_check_places) (defBody s_check_places) (defScope s_check_places) .none kV3 dc3 pm3 an3 cd3 ct3), sl3⟩) (c3 : PySem.W.codeIn K cd3 "check_places" = true) (k3 : PySem.W.keepIn K (.ref f3) = true)
    (a4 : PySem.W.nsIn K mainGlobals "quotient" = some (some (.ref f4))) (l4 : K.lookup f4 = some ⟨oc4, od4, .func (PySem.W.fnOf "quotient" "quotient" (defArgs s_quotient) (defBody s_quotient) (defScope s_quotient) .none kV4 dc4 pm4 an4 cd4 ct4), sl4⟩) (c4 : PySem.W.codeIn K cd4 "quotient" = true) (k4 : PySem.W.keepIn K (.ref f4) = true)
    (a5 : PySem.W.nsIn K mainGlobals "check_rods" = some (some (.ref f5))) (l5 : K.lookup f5 = some ⟨oc5, od5, .func (PySem.W.fnOf "check_rods" "check_rods" (defArgs s_check_rods) (defBody s_check_rods) (defScope s_check_rods) .none kV5 dc5 pm5 an5 cd5 ct5), sl5⟩) (c5 : PySem.W.codeIn K cd5 "check_rods" = true) (k5 : PySem.W.keepIn K (.ref f5) = true)
    (a6 : PySem.W.nsIn K mainGlobals "share" = some (some (.ref f6))) (l6 : K.lookup f6 = some ⟨oc6, od6, .func (PySem.W.fnOf "share" "share" (defArgs s_share) (defBody s_share) (defScope s_share) .none kV6 dc6 pm6 an6 cd6 ct6), sl6⟩) (c6 : PySem.W.codeIn K cd6 "share" = true) (k6 : PySem.W.keepIn K (.ref f6) = true)
    (a7 : PySem.W.nsIn K mainGlobals "parted" = some (some (.ref f7))) (l7 : K.lookup f7 = some ⟨oc7, od7, .func (PySem.W.fnOf "parted" "parted" (defArgs s_parted) (defBody s_parted) (defScope s_parted) .none kV7 dc7 pm7 an7 cd7 ct7), sl7⟩) (c7 : PySem.W.codeIn K cd7 "parted" = true) (k7 : PySem.W.keepIn K (.ref f7) = true)
    (a8 : PySem.W.nsIn K mainGlobals "heights_on" = some (some (.ref f8))) (l8 : K.lookup f8 = some ⟨oc8, od8, .func (PySem.W.fnOf "heights_on" "heights_on" (defArgs s_heights_on) (defBody s_heights_on) (defScope s_heights_on) .none kV8 dc8 pm8 an8 cd8 ct8), sl8⟩) (c8 : PySem.W.codeIn K cd8 "heights_on" = true) (k8 : PySem.W.keepIn K (.ref f8) = true)
    (a9 : PySem.W.nsIn K mainGlobals "turned" = some (some (.ref f9))) (l9 : K.lookup f9 = some ⟨oc9, od9, .func (PySem.W.fnOf "turned" "turned" (defArgs s_turned) (defBody s_turned) (defScope s_turned) .none kV9 dc9 pm9 an9 cd9 ct9), sl9⟩) (c9 : PySem.W.codeIn K cd9 "turned" = true) (k9 : PySem.W.keepIn K (.ref f9) = true)
    (a10 : PySem.W.nsIn K mainGlobals "lines_at" = some (some (.ref f10))) (l10 : K.lookup f10 = some ⟨oc10, od10, .func (PySem.W.fnOf "lines_at" "lines_at" (defArgs s_lines_at) (defBody s_lines_at) (defScope s_lines_at) .none kV10 dc10 pm10 an10 cd10 ct10), sl10⟩) (c10 : PySem.W.codeIn K cd10 "lines_at" = true) (k10 : PySem.W.keepIn K (.ref f10) = true)
    (a11 : PySem.W.nsIn K mainGlobals "hooks" = some (some (.ref f11))) (l11 : K.lookup f11 = some ⟨oc11, od11, .func (PySem.W.fnOf "hooks" "hooks" (defArgs s_hooks) (defBody s_hooks) (defScope s_hooks) .none kV11 dc11 pm11 an11 cd11 ct11), sl11⟩) (c11 : PySem.W.codeIn K cd11 "hooks" = true) (k11 : PySem.W.keepIn K (.ref f11) = true)
    (a12 : PySem.W.nsIn K mainGlobals "line_hooks" = some (some (.ref f12))) (l12 : K.lookup f12 = some ⟨oc12, od12, .func (PySem.W.fnOf "line_hooks" "line_hooks" (defArgs s_line_hooks) (defBody s_line_hooks) (defScope s_line_hooks) .none kV12 dc12 pm12 an12 cd12 ct12), sl12⟩) (c12 : PySem.W.codeIn K cd12 "line_hooks" = true) (k12 : PySem.W.keepIn K (.ref f12) = true)
    (a13 : PySem.W.nsIn K mainGlobals "fillings" = some (some (.ref f13))) (l13 : K.lookup f13 = some ⟨oc13, od13, .func (PySem.W.fnOf "fillings" "fillings" (defArgs s_fillings) (defBody s_fillings) (defScope s_fillings) .none kV13 dc13 pm13 an13 cd13 ct13), sl13⟩) (c13 : PySem.W.codeIn K cd13 "fillings" = true) (k13 : PySem.W.keepIn K (.ref f13) = true)
    (a14 : PySem.W.nsIn K mainGlobals "product_to" = some (some (.ref f14))) (l14 : K.lookup f14 = some ⟨oc14, od14, .func (PySem.W.fnOf "product_to" "product_to" (defArgs s_product_to) (defBody s_product_to) (defScope s_product_to) .none kV14 dc14 pm14 an14 cd14 ct14), sl14⟩) (c14 : PySem.W.codeIn K cd14 "product_to" = true) (k14 : PySem.W.keepIn K (.ref f14) = true)
    (a15 : PySem.W.nsIn K mainGlobals "lesser" = some (some (.ref f15))) (l15 : K.lookup f15 = some ⟨oc15, od15, .func (PySem.W.fnOf "lesser" "lesser" (defArgs s_lesser) (defBody s_lesser) (defScope s_lesser) .none kV15 dc15 pm15 an15 cd15 ct15), sl15⟩) (c15 : PySem.W.codeIn K cd15 "lesser" = true) (k15 : PySem.W.keepIn K (.ref f15) = true)
    (a16 : PySem.W.nsIn K mainGlobals "without_rim" = some (some (.ref f16))) (l16 : K.lookup f16 = some ⟨oc16, od16, .func (PySem.W.fnOf "without_rim" "without_rim" (defArgs s_without_rim) (defBody s_without_rim) (defScope s_without_rim) .none kV16 dc16 pm16 an16 cd16 ct16), sl16⟩) (c16 : PySem.W.codeIn K cd16 "without_rim" = true) (k16 : PySem.W.keepIn K (.ref f16) = true)
    (a17 : PySem.W.nsIn K mainGlobals "ways_down" = some (some (.ref f17))) (l17 : K.lookup f17 = some ⟨oc17, od17, .func (PySem.W.fnOf "ways_down" "ways_down" (defArgs s_ways_down) (defBody s_ways_down) (defScope s_ways_down) .none kV17 dc17 pm17 an17 cd17 ct17), sl17⟩) (c17 : PySem.W.codeIn K cd17 "ways_down" = true) (k17 : PySem.W.keepIn K (.ref f17) = true)
    (a18 : PySem.W.nsIn K mainGlobals "mixes" = some (some (.ref f18))) (l18 : K.lookup f18 = some ⟨oc18, od18, .func (PySem.W.fnOf "mixes" "mixes" (defArgs s_mixes) (defBody s_mixes) (defScope s_mixes) .none kV18 dc18 pm18 an18 cd18 ct18), sl18⟩) (c18 : PySem.W.codeIn K cd18 "mixes" = true) (k18 : PySem.W.keepIn K (.ref f18) = true)
    (a19 : PySem.W.nsIn K mainGlobals "_law_drawn" = some (some (.ref f19))) (l19 : K.lookup f19 = some ⟨oc19, od19, .func (PySem.W.fnOf "_law_drawn" "_law_drawn" (defArgs s_ldrawn) (defBody s_ldrawn) (defScope s_ldrawn) .none kV19 dc19 pm19 an19 cd19 ct19), sl19⟩) (c19 : PySem.W.codeIn K cd19 "_law_drawn" = true) (k19 : PySem.W.keepIn K (.ref f19) = true)
    (a20 : PySem.W.nsIn K mainGlobals "_law_whole" = some (some (.ref f20))) (l20 : K.lookup f20 = some ⟨oc20, od20, .func (PySem.W.fnOf "_law_whole" "_law_whole" (defArgs s_lwhole) (defBody s_lwhole) (defScope s_lwhole) .none kV20 dc20 pm20 an20 cd20 ct20), sl20⟩) (c20 : PySem.W.codeIn K cd20 "_law_whole" = true) (k20 : PySem.W.keepIn K (.ref f20) = true)
    (a21 : PySem.W.nsIn K mainGlobals "_law_row_by" = some (some (.ref f21))) (l21 : K.lookup f21 = some ⟨oc21, od21, .func (PySem.W.fnOf "_law_row_by" "_law_row_by" (defArgs s_lrow_by) (defBody s_lrow_by) (defScope s_lrow_by) .none kV21 dc21 pm21 an21 cd21 ct21), sl21⟩) (c21 : PySem.W.codeIn K cd21 "_law_row_by" = true) (k21 : PySem.W.keepIn K (.ref f21) = true)
    (a22 : PySem.W.nsIn K mainGlobals "_law_refused" = some (some (.ref f22))) (l22 : K.lookup f22 = some ⟨oc22, od22, .func (PySem.W.fnOf "_law_refused" "_law_refused" (defArgs s_lrefused) (defBody s_lrefused) (defScope s_lrefused) .none kV22 dc22 pm22 an22 cd22 ct22), sl22⟩) (c22 : PySem.W.codeIn K cd22 "_law_refused" = true) (k22 : PySem.W.keepIn K (.ref f22) = true)
    (a23 : PySem.W.nsIn K mainGlobals "law" = some (some (.ref f23))) (l23 : K.lookup f23 = some ⟨oc23, od23, .func (PySem.W.fnOf "law" "law" (defArgs s_law) (defBody s_law) (defScope s_law) .none kV23 dc23 pm23 an23 cd23 ct23), sl23⟩) (c23 : PySem.W.codeIn K cd23 "law" = true) (k23 : PySem.W.keepIn K (.ref f23) = true)
    (z_bool : PySem.W.nsIn K mainGlobals "bool" = some none) (z_enumerate : PySem.W.nsIn K mainGlobals "enumerate" = some none) (z_int : PySem.W.nsIn K mainGlobals "int" = some none) (z_isinstance : PySem.W.nsIn K mainGlobals "isinstance" = some none) (z_len : PySem.W.nsIn K mainGlobals "len" = some none) (z_list : PySem.W.nsIn K mainGlobals "list" = some none) (z_max : PySem.W.nsIn K mainGlobals "max" = some none) (z_min : PySem.W.nsIn K mainGlobals "min" = some none) (z_range : PySem.W.nsIn K mainGlobals "range" = some none) (z_reversed : PySem.W.nsIn K mainGlobals "reversed" = some none) (z_sum : PySem.W.nsIn K mainGlobals "sum" = some none)
    {c_BeadError c_NoRods : Addr} (C_BeadError : PySem.W.nsIn K mainGlobals "BeadError" = some (some (.ref c_BeadError))) (C_NoRods : PySem.W.nsIn K mainGlobals "NoRods" = some (some (.ref c_NoRods))) (x_NoRods : PySem.W.excIn K c_NoRods bmV "ValueError.__new__" = true) (ga_NoRods : PySem.W.findIn K (.ref c_NoRods) "__getattribute__" = some (some (.builtin "BaseException.__getattribute__"))) (gt_NoRods : PySem.W.findIn K (.ref c_NoRods) "__getattr__" = some none) (cl_NoRods : PySem.W.findIn K (.ref c_NoRods) "__class__" = some (some (.builtin "object.__class__"))) (sb_NoRods : PySem.W.subIn K (.ref c_NoRods) (.type "BaseException") = some true) (so_NoRods : PySem.W.subIn K (.ref c_NoRods) (.type "object") = some true) (hc_NoRods : (PySem.W.clsIn K c_NoRods).isSome = true) (v_NoRods : PySem.W.kitOne K (.ref c_NoRods) (.type "ValueError") = some true) (e_NoRods_NoRods : PySem.W.exmOne K (.ref c_NoRods) (.ref c_NoRods) = some true) (i_NoRods_BeadError : PySem.W.kitOne K (.ref c_NoRods) (.ref c_BeadError) = some true) :
    ∃ fd : FuncData, (∀ (s : Shared) (v : Value), BindsTo s fd ⟨[v], []⟩ [("script", v)]) ∧ ∀ base : Heap, K.In base → base.Ns mainGlobals mg → FnOk l.prog w K mg base CX0 9 fa fd ["script"] (spLaw K) := by
  have e := hfa.symm.trans (PySem.W.mg_of X G a23)
  cases e
  have F1 := fun_mk (st := s_beads) l1 c1 k1
  have F2 := fun_mk (st := s_row_of) l2 c2 k2
  have F3 := fun_mk (st := s_check_places) l3 c3 k3
  have F4 := fun_mk (st := s_quotient) l4 c4 k4
  have F5 := fun_mk (st := s_check_rods) l5 c5 k5
  have F6 := fun_mk (st := s_share) l6 c6 k6
  have F7 := fun_mk (st := s_parted) l7 c7 k7
  have F8 := fun_mk (st := s_heights_on) l8 c8 k8
  have F9 := fun_mk (st := s_turned) l9 c9 k9
  have F10 := fun_mk (st := s_lines_at) l10 c10 k10
  have F11 := fun_mk (st := s_hooks) l11 c11 k11
  have F12 := fun_mk (st := s_line_hooks) l12 c12 k12
  have F13 := fun_mk (st := s_fillings) l13 c13 k13
  have F14 := fun_mk (st := s_product_to) l14 c14 k14
  have F15 := fun_mk (st := s_lesser) l15 c15 k15
  have F16 := fun_mk (st := s_without_rim) l16 c16 k16
  have F17 := fun_mk (st := s_ways_down) l17 c17 k17
  have F18 := fun_mk (st := s_mixes) l18 c18 k18
  have F19 := fun_mk (st := s_ldrawn) l19 c19 k19
  have F20 := fun_mk (st := s_lwhole) l20 c20 k20
  have F21 := fun_mk (st := s_lrow_by) l21 c21 k21
  have F22 := fun_mk (st := s_lrefused) l22 c22 k22
  have F23 := fun_mk (st := s_law) l23 c23 k23
  have b1 := F1.binds (ps := ["row", "many"]) fun _ _ _ _ _ _ => len2 fun _ _ => rfl
  have b2 := F2.binds (ps := ["places"]) fun _ _ _ _ _ _ => len1 fun _ => rfl
  have b3 := F3.binds (ps := ["places"]) fun _ _ _ _ _ _ => len1 fun _ => rfl
  have b4 := F4.binds (ps := ["row", "rods"]) fun _ _ _ _ _ _ => len2 fun _ _ => rfl
  have b5 := F5.binds (ps := ["rods"]) fun _ _ _ _ _ _ => len1 fun _ => rfl
  have b6 := F6.binds (ps := ["row", "rods"]) fun _ _ _ _ _ _ => len2 fun _ _ => rfl
  have b7 := F7.binds (ps := ["row", "rods"]) fun _ _ _ _ _ _ => len2 fun _ _ => rfl
  have b8 := F8.binds (ps := ["places", "rods", "rod"]) fun _ _ _ _ _ _ => len3 fun _ _ _ => rfl
  have b9 := F9.binds (ps := ["row"]) fun _ _ _ _ _ _ => len1 fun _ => rfl
  have b10 := F10.binds (ps := ["row", "place"]) fun _ _ _ _ _ _ => len2 fun _ _ => rfl
  have b11 := F11.binds (ps := ["row"]) fun _ _ _ _ _ _ => len1 fun _ => rfl
  have b12 := F12.binds (ps := ["row", "columns", "line"]) fun _ _ _ _ _ _ => len3 fun _ _ _ => rfl
  have b13 := F13.binds (ps := ["row"]) fun _ _ _ _ _ _ => len1 fun _ => rfl
  have b14 := F14.binds (ps := ["number"]) fun _ _ _ _ _ _ => len1 fun _ => rfl
  have b15 := F15.binds (ps := ["row", "rods"]) fun _ _ _ _ _ _ => len2 fun _ _ => rfl
  have b16 := F16.binds (ps := ["row", "line", "place"]) fun _ _ _ _ _ _ => len3 fun _ _ _ => rfl
  have b17 := F17.binds (ps := ["row", "rods"]) fun _ _ _ _ _ _ => len2 fun _ _ => rfl
  have b18 := F18.binds (ps := ["sizes"]) fun _ _ _ _ _ _ => len1 fun _ => rfl
  have b19 := F19.binds (ps := ["script", "k", "many"]) fun _ _ _ _ _ _ => len3 fun _ _ _ => rfl
  have b20 := F20.binds (ps := ["found"]) fun _ _ _ _ _ _ => len1 fun _ => rfl
  have b21 := F21.binds (ps := ["script", "base", "most"]) fun _ _ _ _ _ _ => len3 fun _ _ _ => rfl
  have b22 := F22.binds (ps := ["row", "rods"]) fun _ _ _ _ _ _ => len2 fun _ _ => rfl
  exact ⟨PySem.W.fnOf "law" "law" (defArgs s_law) (defBody s_law) (defScope s_law) .none kV23 dc23 pm23 an23 cd23 ct23, fun s v => .of_eq rfl, fun base _ _ => ok_law F23 ⟨F1, PySem.W.mg_of X G a1, b1, F2, PySem.W.mg_of X G a2, b2, F3, PySem.W.mg_of X G a3, b3, F4, PySem.W.mg_of X G a4, b4, F5, PySem.W.mg_of X G a5, b5, F6, PySem.W.mg_of X G a6, b6, F7, PySem.W.mg_of X G a7, b7, F8, PySem.W.mg_of X G a8, b8, F9, PySem.W.mg_of X G a9, b9, F10, PySem.W.mg_of X G a10, b10, F11, PySem.W.mg_of X G a11, b11, F12, PySem.W.mg_of X G a12, b12, F13, PySem.W.mg_of X G a13, b13, F14, PySem.W.mg_of X G a14, b14, F15, PySem.W.mg_of X G a15, b15, F16, PySem.W.mg_of X G a16, b16, F17, PySem.W.mg_of X G a17, b17, F18, PySem.W.mg_of X G a18, b18, F19, PySem.W.mg_of X G a19, b19, F20, PySem.W.mg_of X G a20, b20, F21, PySem.W.mg_of X G a21, b21, F22, PySem.W.mg_of X G a22, b22, PySem.W.mg_none_of X G z_bool, PySem.W.mg_none_of X G z_enumerate, PySem.W.mg_none_of X G z_int, PySem.W.mg_none_of X G z_isinstance, PySem.W.mg_none_of X G z_len, PySem.W.mg_none_of X G z_list, PySem.W.mg_none_of X G z_max, PySem.W.mg_none_of X G z_min, PySem.W.mg_none_of X G z_range, PySem.W.mg_none_of X G z_reversed, PySem.W.mg_none_of X G z_sum, PySem.W.mg_of X G C_BeadError, PySem.W.mg_of X G C_NoRods, x_NoRods, ⟨ga_NoRods, gt_NoRods, cl_NoRods, sb_NoRods, so_NoRods, hc_NoRods⟩, v_NoRods, e_NoRods_NoRods, i_NoRods_BeadError⟩⟩
theorem walk {l : PySem.W.OpenLaw} {q : Program} {loose : List Str} {XP : (Str → Option Value) → Heap → Prop} {YP : World → Heap → Prop} {d : DefRec} {K : Params → PySem.W.Frag} (hn : l.most = some 63) (hdf : d.params.defaults = [])
    (hY : ∀ (w : World) (h : Heap), YP w h → (K w.params).In h)
    (F : ∀ (w : World) (mg : Str → Option Value) (fa : Addr) (h : Heap), (K w.params).In h → h.Ns mainGlobals mg → mg d.name = some (.ref fa) →
      ∃ fd : FuncData, (∀ (s : Shared) (u : Value), BindsTo s fd ⟨[u], []⟩ [("script", u)]) ∧ ∀ base : Heap, (K w.params).In base → base.Ns mainGlobals mg → FnOk l.prog w (K w.params) mg base CX0 9 fa fd ["script"] (spLaw (K w.params))) :
    PySem.W.WalkO q loose XP YP l.row.toRowW d [] (fun f vs => PySem.call f vs) :=
  L2.walk_of (n := 63) (k := 9) (x := "script") (CX := fun _ => CX0) (sp := fun w => spLaw (K w.params)) hn (by decide) hdf ⟨rfl, by decide, by decide⟩ hY F (fun _ _ a ns hl _ hS => ⟨a, ns, rfl, hS, hl, fun _ => rfl⟩) fun _ _ _ _ _ z => z
end Rb
open PySem PySem.W PyProof.Rows
set_option maxRecDepth 100000 in
set_option maxHeartbeats 0 in
theorem PySem.Challenge.cw_rodbeads_k16_whole_ways_down_holds : PySem.Challenge.rw_rodbeads_k16_whole_ways_down.Holds := by
  w_on; o_law; k_head; (case hw => w_witness2)
  k_fill
  refine Rb.walk (l := PySem.Challenge.rw_rodbeads_k16_whole_ways_down) rfl rfl (fun w h Y => PySem.W.kIn_of Y) ?F
  case F =>
    intro w mg fa h KX G hmg
    refine' Rb.all_mk KX G hmg ?a1 ?l1 ?c1 ?k1 ?a2 ?l2 ?c2 ?k2 ?a3 ?l3 ?c3 ?k3 ?a4 ?l4 ?c4 ?k4 ?a5 ?l5 ?c5 ?k5 ?a6 ?l6 ?c6 ?k6 ?a7 ?l7 ?c7 ?k7 ?a8 ?l8 ?c8 ?k8 ?a9 ?l9 ?c9 ?k9 ?a10 ?l10 ?c10 ?k10 ?a11 ?l11 ?c11 ?k11 ?a12 ?l12 ?c12 ?k12 ?a13 ?l13 ?c13 ?k13 ?a14 ?l14 ?c14 ?k14 ?a15 ?l15 ?c15 ?k15 ?a16 ?l16 ?c16 ?k16 ?a17 ?l17 ?c17 ?k17 ?a18 ?l18 ?c18 ?k18 ?a19 ?l19 ?c19 ?k19 ?a20 ?l20 ?c20 ?k20 ?a21 ?l21 ?c21 ?k21 ?a22 ?l22 ?c22 ?k22 ?a23 ?l23 ?c23 ?k23 ?z_bool ?z_enumerate ?z_int ?z_isinstance ?z_len ?z_list ?z_max ?z_min ?z_range ?z_reversed ?z_sum ?C_BeadError ?C_NoRods ?x_NoRods ?ga_NoRods ?gt_NoRods ?cl_NoRods ?sb_NoRods ?so_NoRods ?hc_NoRods ?v_NoRods ?e_NoRods_NoRods ?i_NoRods_BeadError
    (case a1 => k_is); (case l1 => k_is); (case c1 => k_is); (case k1 => k_is)
    (case a2 => k_is); (case l2 => k_is); (case c2 => k_is); (case k2 => k_is)
    (case a3 => k_is); (case l3 => k_is); (case c3 => k_is); (case k3 => k_is)
    (case a4 => k_is); (case l4 => k_is); (case c4 => k_is); (case k4 => k_is)
    (case a5 => k_is); (case l5 => k_is); (case c5 => k_is); (case k5 => k_is)
    (case a6 => k_is); (case l6 => k_is); (case c6 => k_is); (case k6 => k_is)
    (case a7 => k_is); (case l7 => k_is); (case c7 => k_is); (case k7 => k_is)
    (case a8 => k_is); (case l8 => k_is); (case c8 => k_is); (case k8 => k_is)
    (case a9 => k_is); (case l9 => k_is); (case c9 => k_is); (case k9 => k_is)
    (case a10 => k_is); (case l10 => k_is); (case c10 => k_is); (case k10 => k_is)
    (case a11 => k_is); (case l11 => k_is); (case c11 => k_is); (case k11 => k_is)
    (case a12 => k_is); (case l12 => k_is); (case c12 => k_is); (case k12 => k_is)
    (case a13 => k_is); (case l13 => k_is); (case c13 => k_is); (case k13 => k_is)
    (case a14 => k_is); (case l14 => k_is); (case c14 => k_is); (case k14 => k_is)
    (case a15 => k_is); (case l15 => k_is); (case c15 => k_is); (case k15 => k_is)
    (case a16 => k_is); (case l16 => k_is); (case c16 => k_is); (case k16 => k_is)
    (case a17 => k_is); (case l17 => k_is); (case c17 => k_is); (case k17 => k_is)
    (case a18 => k_is); (case l18 => k_is); (case c18 => k_is); (case k18 => k_is)
    (case a19 => k_is); (case l19 => k_is); (case c19 => k_is); (case k19 => k_is)
    (case a20 => k_is); (case l20 => k_is); (case c20 => k_is); (case k20 => k_is)
    (case a21 => k_is); (case l21 => k_is); (case c21 => k_is); (case k21 => k_is)
    (case a22 => k_is); (case l22 => k_is); (case c22 => k_is); (case k22 => k_is)
    (case a23 => k_is); (case l23 => k_is); (case c23 => k_is); (case k23 => k_is)
    (case z_bool => k_is)
    (case z_enumerate => k_is)
    (case z_int => k_is)
    (case z_isinstance => k_is)
    (case z_len => k_is)
    (case z_list => k_is)
    (case z_max => k_is)
    (case z_min => k_is)
    (case z_range => k_is)
    (case z_reversed => k_is)
    (case z_sum => k_is)
    (case C_BeadError => k_is)
    (case C_NoRods => k_is)
    (case x_NoRods => k_exc)
    (case ga_NoRods => k_is)
    (case gt_NoRods => k_is)
    (case cl_NoRods => k_is)
    (case sb_NoRods => k_is)
    (case so_NoRods => k_is)
    (case hc_NoRods => kernel_rfl)
    (case v_NoRods => kernel_rfl)
    (case e_NoRods_NoRods => kernel_rfl)
    (case i_NoRods_BeadError => kernel_rfl)

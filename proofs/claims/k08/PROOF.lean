import PyProof.Rows.All
import Wide.All
import OpenK.AllK
import Wide.FinOn
import Lean
import PyProof.EqAt
import PyProof.EqKinds
import PyProof.TupleCall
import KE.KTryMore
import PyProof.ExcArgsOwn
import KE.KIntText
import PyProof.Rows.StrNews
import PyProof.Rows.StrWeight2
import PyProof.StrLawsTight
import PyProof.StrLawsChain
import PyProof.Rows.Range3
import PyProof.ZipIter
import PyProof.Rows.SortShell
import PySem.Challenge.RW_rodbeads_k08_whole_back_and_there
set_option Elab.async false
set_option linter.all false
set_option maxRecDepth 100000
namespace L2
open PySem PySem.Spec PyProof.Rows

abbrev Key := Sum Int Str
def keyIs : Key → Value → Bool
  | .inl k, v => Value.isInt k v
  | .inr x, v => Value.isStrOf x v
def keyH (w : World) : Key → Int
  | .inl k => hashInt k
  | .inr x => hashStr w x
theorem keyIs_shape : ∀ {k : Key} {v : Value}, keyIs k v = true → (∃ i t, k = Sum.inl i ∧ v = Value.int i t) ∨ (∃ x t, k = Sum.inr x ∧ v = Value.str x t)
  | .inl i, v, h => by
    obtain ⟨t, e⟩ := Value.isInt_shape (k := i) (v := v) h
    exact .inl ⟨i, t, rfl, e⟩
  | .inr x, v, h => by
    obtain ⟨t, e⟩ := Value.isStrOf_shape (x := x) (v := v) h
    exact .inr ⟨x, t, rfl, e⟩
theorem key_ll (a b : Int) : decide ((Sum.inl a : Key) = Sum.inl b) = (a == b) := by
  by_cases e : a = b
  · subst e; simp
  · have h : ¬ (Sum.inl a : Key) = Sum.inl b := fun q => e (Sum.inl.inj q)
    rw [decide_eq_false h]
    exact (beq_eq_false_iff_ne.mpr e).symm
theorem key_rr (a b : Str) : decide ((Sum.inr a : Key) = Sum.inr b) = decide (a = b) := by
  by_cases e : a = b
  · subst e; simp
  · have h : ¬ (Sum.inr a : Key) = Sum.inr b := fun q => e (Sum.inr.inj q)
    rw [decide_eq_false h, decide_eq_false e]
theorem key_lr (a : Int) (b : Str) : decide ((Sum.inl a : Key) = Sum.inr b) = false := decide_eq_false (fun q => nomatch q)
theorem key_rl (a : Str) (b : Int) : decide ((Sum.inr a : Key) = Sum.inl b) = false := decide_eq_false (fun q => nomatch q)

def mixKind (prog : Program) (w : World) : PySem.KeyKind prog w Key where
  is := keyIs
  hash := keyH w
  inj := fun v a b ha hb => by
    rcases keyIs_shape ha with ⟨i, t, rfl, rfl⟩ | ⟨x, t, rfl, rfl⟩
    · rcases keyIs_shape hb with ⟨j, u, rfl, e⟩ | ⟨y, u, rfl, e⟩
      · injection e with e1 _; rw [e1]
      · exact nomatch e
    · rcases keyIs_shape hb with ⟨j, u, rfl, e⟩ | ⟨y, u, rfl, e⟩
      · exact nomatch e
      · injection e with e1 _; rw [e1]
  byValue := fun k v h => by
    rcases keyIs_shape h with ⟨i, t, rfl, rfl⟩ | ⟨x, t, rfl, rfl⟩ <;> rfl
  pyHash := fun hv h => by
    rcases keyIs_shape hv with ⟨i, t, rfl, rfl⟩ | ⟨x, t, rfl, rfl⟩
    · exact wpAny_pyHash_int h
    · exact wpAny_pyHash_str h
  eqBool := fun hu hv h => by
    rcases keyIs_shape hu with ⟨i, t, rfl, rfl⟩ | ⟨x, t, rfl, rfl⟩
    · rcases keyIs_shape hv with ⟨j, u, rfl, rfl⟩ | ⟨y, u, rfl, rfl⟩
      · rw [key_ll] at h; exact wpAny_eqBool_int h
      · rw [key_lr] at h; exact SeqAt.EqAt.int_str i t y u _ _ _ _ h
    · rcases keyIs_shape hv with ⟨j, u, rfl, rfl⟩ | ⟨y, u, rfl, rfl⟩
      · rw [key_rl] at h; exact SeqAt.EqAt.str_int x t j u _ _ _ _ h
      · rw [key_rr] at h; exact wpAny_eqBool_str h
  «strs» := fun k x t v h => by
    rcases keyIs_shape h with ⟨i, u, rfl, e⟩ | ⟨y, u, rfl, e⟩
    · exact nomatch e
    · injection e with e1 _
      subst e1
      cases v <;> rfl

end L2

namespace L2
open PySem PySem.Spec PyProof.Rows

inductive V where
  | non | bl (b : Bool) | int (i : Int) | str (x : Str) | byt (b : Array UInt8) | flt (b : UInt64) | ref (a : Addr) | ty (n : String)
  deriving DecidableEq

def RelV : V → Value → Prop
  | .non, u => u = Value.none
  | .bl b, u => u = Value.bool b
  | .int i, u => ∃ t, u = Value.int i t
  | .str x, u => ∃ t, u = Value.str x t
  | .byt b, u => ∃ t, u = Value.bytes b t
  | .flt b, u => ∃ t, u = Value.float b t
  | .ref a, u => u = Value.ref a
  | .ty n, u => u = Value.type n

abbrev Vals : List V → List Value → Prop := Paired RelV
theorem Vals.length {xs : List V} {us : List Value} (r : Vals xs us) : xs.length = us.length := Paired.length r
theorem Vals.get : ∀ {xs : List V} {us : List Value} {i : Nat} {x : V}, Vals xs us → xs[i]? = some x → ∃ u, us[i]? = some u ∧ RelV x u
  | _, _, _, _, .nil, e => by simp at e
  | _, _, 0, _, .cons r _, e => by simp at e; subst e; exact ⟨_, rfl, r⟩
  | _, _, i + 1, x, .cons _ t, e => by
    obtain ⟨u, h1, h2⟩ := Vals.get (i := i) (x := x) t (by simpa using e)
    exact ⟨u, by simpa using h1, h2⟩
theorem Vals.set {x : V} {u : Value} (r : RelV x u) : ∀ {xs : List V} {us : List Value} (i : Nat), Vals xs us → Vals (xs.set i x) (us.set i u)
  | _, _, _, .nil => .nil
  | _, _, 0, .cons _ t => .cons r t
  | _, _, i + 1, .cons q t => .cons q (Vals.set r i t)
theorem Vals.append : ∀ {xs ys : List V} {us ws : List Value}, Vals xs us → Vals ys ws → Vals (xs ++ ys) (us ++ ws)
  | _, _, _, _, .nil, s => s
  | _, _, _, _, .cons r t, s => .cons r (Vals.append t s)
def RelO : Option V → Option Value → Prop
  | some v, some u => RelV v u
  | none, none => True
  | _, _ => False
def KV {κ : Type} : List (κ × V) → List (κ × Value) → Prop := Paired fun (p : κ × V) (q : κ × Value) => p.1 = q.1 ∧ RelV p.2 q.2

def kV : Key → V
  | .inl i => .int i
  | .inr x => .str x

inductive HO where
  /-- a list -/
  | lst (xs : List V)
  /-- a tuple (never changes) -/
  | tup (xs : List V)
  /-- a dict whose keys are ints and texts; one whose keys are tuples of ints and texts (the empty one is both) -/
  | dK (kvs : List (Key × V)) | dT (kvs : List (List Key × V))
  /-- a set of ints: its members, its size -/
  | set (S : Int → Bool) (n : Nat)
  /-- an instance of the class at C, its dict at dx, its attributes -/
  | ins (C dx : Addr) (fs : List (Str × V))
  /-- the dict of the instance at x -/
  | own (x : Addr)
  /-- the dict of an exception -/
  | xd (fs : List (Str × V))
  /-- a bound method, f of x -/
  | met (f x : Addr)
  /-- a range object lo, lo + 1, .. below hi -/
  | rng (lo hi : Int)
  /-- a thing that is known to the object (the script; a dict while a loop walks it): read, never written while it is so -/
  | frz (o : Obj) (u : HO)
  /-- a code object's table -/
  | tbl (ps : Array Value)
  /-- any other thing, by what is true of its one object (a def of one's own: SetO a S n := HO.ext fun h => ..) -/
  | ext (φ : Heap → Prop)

abbrev Hp := Addr → Option HO
def upd (H : Hp) (a : Addr) (o : HO) : Hp := fun b => if b = a then some o else H b
theorem upd_same {H : Hp} {a : Addr} {o : HO} : upd H a o a = some o := by unfold upd; rw [if_pos rfl]
theorem upd_ne {H : Hp} {a b : Addr} {o : HO} (h : b ≠ a) : upd H a o b = H b := by unfold upd; rw [if_neg h]
theorem ne_of_none {H : Hp} {a b : Addr} {o : HO} (h : H a = some o) (h' : H b = none) : a ≠ b := by
  intro e; subst e; rw [h] at h'; cases h'

section
variable (P : Program) (w : World)
def ObjOk (H : Hp) (h : Heap) (a : Addr) : HO → Prop
  | .lst xs => xs.length ≤ sizeLine ∧ ∃ (its : List Value) (n : Nat), Vals xs its ∧ h.get? a = some { cls := .type "list", data := .seq its.toArray n }
  | .tup xs => xs.length ≤ sizeLine ∧ ∃ its : List Value, Vals xs its ∧ IsTup h a its.toArray
  | .dK kvs => kvs.length ≤ sizeLine ∧ (a == sysModules) = false ∧ ∃ vs, KV kvs vs ∧ h.DictOf (mixKind P w) a vs
  | .dT kvs => kvs.length ≤ sizeLine ∧ (a == sysModules) = false ∧ ∃ xs : List (List Key × Addr × Value),
      Paired (fun (p : List Key × V) (q : List Key × Addr × Value) => p.1 = q.1 ∧ H q.2.1 = some (.tup (p.1.map kV)) ∧ RelV p.2 q.2.2) kvs xs ∧
      ∃ o es ep, h.get? a = some o ∧ o.ExactDict ∧ o.data = .dict es ep ∧ es.toList = xs.map (entryOfKey (tupleKind (mixKind P w))) ∧ (xs.map (·.1)).Nodup
  | .set S n => h.SetOf (intKind P w) a S n
  | .ins C dx fs => H dx = some (.own a) ∧ fs.length ≤ 1000 ∧ dx ≠ a ∧ h.get? a = some (PySem.W.instObj C dx) ∧
      ∃ mA, h.Ns1 dx mA ∧ (∀ f, RelO (fs.lookup f) (mA f)) ∧ PySem.Within mA (fs.map (·.1))
  | .own _ => ∃ o, h.get? a = some o
  | .xd fs => ∃ mA, h.Ns1 a mA ∧ ∀ f, RelO (fs.lookup f) (mA f)
  | .rng lo hi => ∃ t u v, h.get? a = some { cls := .type "range", data := .fields #[.int lo t, .int hi u, .int 1 v] }
  | .frz o u => h.get? a = some o ∧ ObjOk H h a u
  | .tbl ps => h.get? a = some { cls := .none, data := .fields ps }
  | .met f x => h.get? a = some (PySem.W.methodObj (.ref f) (.ref x))
  | .ext φ => φ h ∧ (∃ o, h.get? a = some o) ∧ ∀ h1 h2 : Heap, φ h1 → (∀ o, h1.get? a = some o → h2.get? a = some o) → φ h2
def HOk (H : Hp) (h : Heap) : Prop := ∀ a o, H a = some o → ObjOk P w H h a o
end

section
variable {P : Program} {w : World} {H H' : Hp} {h h' : Heap} {a : Addr} {o : HO}
theorem ObjOk.lt (x : ObjOk P w H h a o) : a < h.objs.size := by
  cases o with
  | lst xs => obtain ⟨_, _, _, _, e⟩ := x; exact Heap.lt_size e
  | tup xs => obtain ⟨_, _, _, p⟩ := x; exact p.lt
  | dK kvs => obtain ⟨_, _, _, _, o, _, _, e, _⟩ := x; exact Heap.lt_size e
  | dT kvs => obtain ⟨_, _, _, _, o, _, _, e, _⟩ := x; exact Heap.lt_size e
  | set S n => obtain ⟨o, _, _, _, e, _⟩ := x; exact Heap.lt_size e
  | ins C dx fs => obtain ⟨_, _, _, e, _⟩ := x; exact Heap.lt_size e
  | own y => obtain ⟨_, e⟩ := x; exact Heap.lt_size e
  | xd fs => obtain ⟨_, ⟨_, _, _, e, _⟩, _⟩ := x; exact Heap.lt_size e
  | rng lo hi => obtain ⟨_, _, _, e⟩ := x; exact Heap.lt_size e
  | frz ob u => obtain ⟨e, _⟩ := x; exact Heap.lt_size e
  | tbl ps => exact Heap.lt_size (show h.get? a = some _ from x)
  | met f y => exact Heap.lt_size (show h.get? a = some _ from x)
  | ext φ => obtain ⟨_, ⟨_, e⟩, _⟩ := x; exact Heap.lt_size e
theorem Paired.mapP {α β : Type} {F G : α → β → Prop} : ∀ {l₁ : List α} {l₂ : List β}, Paired F l₁ l₂ → (∀ a b, F a b → G a b) → Paired G l₁ l₂
  | _, _, .nil, _ => .nil
  | _, _, .cons r t, f => .cons (f _ _ r) (Paired.mapP t f)
theorem ObjOk.stay (x : ObjOk P w H h a o) (k : ∀ b u, (b = a ∨ H b = some (.own a)) → h.get? b = some u → h'.get? b = some u)
    (ho : ∀ b, H b = some (.own a) → H' b = some (.own a)) (ht : ∀ b xs, H b = some (.tup xs) → H' b = some (.tup xs)) : ObjOk P w H' h' a o := by
  induction o with
  | lst xs => obtain ⟨z, its, n, r, e⟩ := x; exact ⟨z, its, n, r, k _ _ (.inl rfl) e⟩
  | tup xs => obtain ⟨z, its, r, ob, e, c⟩ := x; exact ⟨z, its, r, ob, k _ _ (.inl rfl) e, c⟩
  | dK kvs => obtain ⟨z, y, vs, r, ob, es, ep, e, c⟩ := x; exact ⟨z, y, vs, r, ob, es, ep, k _ _ (.inl rfl) e, c⟩
  | dT kvs =>
    obtain ⟨z, y, xs, r, ob, es, ep, e, c⟩ := x
    exact ⟨z, y, xs, Paired.mapP r fun p q z => ⟨z.1, ht _ _ z.2.1, z.2.2⟩, ob, es, ep, k _ _ (.inl rfl) e, c⟩
  | set S n => obtain ⟨ob, es, ep, t, e, c⟩ := x; exact ⟨ob, es, ep, t, k _ _ (.inl rfl) e, c⟩
  | ins C dx fs =>
    obtain ⟨d, z, ne, e, mA, ⟨od, es, ep, e2, c⟩, r⟩ := x
    exact ⟨ho _ d, z, ne, k _ _ (.inl rfl) e, mA, ⟨od, es, ep, k _ _ (.inr d) e2, c⟩, r⟩
  | own y => obtain ⟨ob, e⟩ := x; exact ⟨ob, k _ _ (.inl rfl) e⟩
  | xd fs => obtain ⟨mA, ⟨od, es, ep, e, c⟩, r⟩ := x; exact ⟨mA, ⟨od, es, ep, k _ _ (.inl rfl) e, c⟩, r⟩
  | rng lo hi => obtain ⟨t, u, v, e⟩ := x; exact ⟨t, u, v, k _ _ (.inl rfl) e⟩
  | frz ob u ih => obtain ⟨e, q⟩ := x; exact ⟨k _ _ (.inl rfl) e, ih q⟩
  | tbl ps =>
    have e : h.get? a = some { cls := .none, data := .fields ps } := x
    show h'.get? a = some { cls := .none, data := .fields ps }
    exact k a _ (.inl rfl) e
  | met f y =>
    have e : h.get? a = some (PySem.W.methodObj (.ref f) (.ref y)) := x
    show h'.get? a = some (PySem.W.methodObj (.ref f) (.ref y))
    exact k a _ (.inl rfl) e
  | ext φ => obtain ⟨p, ⟨o, e⟩, st⟩ := x; exact ⟨st _ _ p fun o q => k _ _ (.inl rfl) q, ⟨o, k _ _ (.inl rfl) e⟩, st⟩
theorem HOk.lt (x : HOk P w H h) (e : H a = some o) : a < h.objs.size := (x a o e).lt
theorem HOk.fresh (x : HOk P w H h) (e : h.objs.size ≤ a) : H a = none := by
  cases q : H a with
  | none => rfl
  | some u => exact absurd (Nat.lt_of_lt_of_le (x.lt q) e) (Nat.lt_irrefl _)
theorem HOk.kept (x : HOk P w H h) (k : ∀ b u, h.get? b = some u → h'.get? b = some u) : HOk P w H h' := fun a o e =>
  (x a o e).stay (fun b u _ q => k b u q) (fun _ q => q) fun _ _ q => q
theorem HOk.laid (x : HOk P w H h) (k : ∀ b u, h.get? b = some u → h'.get? b = some u) (hp : h.objs.size ≤ a) (new : ObjOk P w (upd H a o) h' a o) : HOk P w (upd H a o) h' := fun b u e => by
  have hn := x.fresh hp
  by_cases hb : b = a
  · subst hb; rw [upd_same] at e; cases e; exact new
  · rw [upd_ne hb] at e
    exact (x b u e).stay (fun c v _ q => k c v q) (fun c q => by rw [upd_ne (ne_of_none q hn)]; exact q) fun c xs q => by rw [upd_ne (ne_of_none q hn)]; exact q
end

def Rd (H : Hp) (a : Addr) (u : HO) : Prop := H a = some u ∨ ∃ o, H a = some (.frz o u)
theorem Rd.ok {P : Program} {w : World} {H : Hp} {h : Heap} {a : Addr} {u : HO} (r : Rd H a u) (x : HOk P w H h) : ObjOk P w H h a u := by
  rcases r with r | ⟨o, r⟩
  · exact x a u r
  · obtain ⟨_, q⟩ := x a _ r
    exact q
def Mut : Option HO → Prop
  | some (.lst _) => True
  | some (.dK _) => True
  | some (.dT _) => True
  | some (.set _ _) => True
  | some (.ins _ _ _) => True
  | some (.ext _) => True
  | _ => False
section
variable {P : Program} {w : World} {H : Hp} {h h' : Heap} {x e : Addr} {o' : HO}
theorem HOk.write (ok : HOk P w H h) (mu : Mut (H x)) (he : e = x ∨ H e = some (.own x)) (k : ∀ b u, b ≠ e → h.get? b = some u → h'.get? b = some u) (heo : ∃ u, h'.get? e = some u)
    (new : ObjOk P w (upd H x o') h' x o') : HOk P w (upd H x o') h' := fun b u q => by
  have nown : ∀ c y, H c = some (.own y) → c ≠ x := fun c y r z => by subst z; rw [r] at mu; exact mu
  have ntup : ∀ c xs, H c = some (.tup xs) → c ≠ x := fun c xs r z => by subst z; rw [r] at mu; exact mu
  by_cases hb : b = x
  · subst hb; rw [upd_same] at q; cases q; exact new
  · rw [upd_ne hb] at q
    by_cases hbe : b = e
    · have q' : H b = some (.own x) := by
        rcases he with z | z
        · exact absurd (hbe.trans z) hb
        · rw [hbe]; exact z
      rw [q] at q'; cases q'
      obtain ⟨v, hv⟩ := heo
      exact ⟨v, by rw [hbe]; exact hv⟩
    · refine (ok b u q).stay (fun c v hc r => k c v ?_ r) (fun c r => by rw [upd_ne (nown c b r)]; exact r) fun c xs r => by rw [upd_ne (ntup c xs r)]; exact r
      rcases hc with rfl | hc
      · exact hbe
      · rintro rfl
        rcases he with z | z
        · exact nown c b hc z
        · rw [hc] at z; cases z; exact hb rfl
end

structure Un (fs ex : List Addr) (H H' : Hp) (h h' : Heap) : Prop where
  keep : ∀ b o, h.get? b = some o → H b = none → b ∉ fs → b ∉ ex → h'.get? b = some o
  slot : ∀ b o, h.get? b = some o → H b = none → b ∈ fs → b ∉ ex → ∃ sl, h'.get? b = some { o with slots := sl }
  free : ∀ b o, h.get? b = some o → H b = none → b ∉ ex → H' b = none
  there : ∀ b o, h.get? b = some o → b ∉ ex → ∃ o', h'.get? b = some o'
  tups : ∀ b xs, H b = some (.tup xs) → H' b = some (.tup xs)
  frzs : ∀ b o u, H b = some (.frz o u) → H' b = some (.frz o u)
  tbls : ∀ b ps, H b = some (.tbl ps) → ∃ more, H' b = some (.tbl (ps ++ more))
section
variable {fs fs' ex ex' : List Addr} {H H1 H2 : Hp} {h h1 h2 h' : Heap} {a x e : Addr} {o : HO}
theorem Un.any (u : Un fs ex H H1 h h1) {b : Addr} {ob : Obj} (q : h.get? b = some ob) (n : H b = none) (hx : b ∉ ex) : ∃ sl, h1.get? b = some { ob with slots := sl } := by
  by_cases hb : b ∈ fs
  · exact u.slot b ob q n hb hx
  · exact ⟨ob.slots, u.keep b ob q n hb hx⟩
theorem Un.kept (k : ∀ b u, h.get? b = some u → h'.get? b = some u) : Un fs ex H H h h' :=
  ⟨fun b ob q _ _ _ => k b ob q, fun b ob q _ _ _ => ⟨ob.slots, k b ob q⟩, fun _ _ _ n _ => n, fun b ob q _ => ⟨ob, k b ob q⟩, fun _ _ q => q, fun _ _ _ q => q, fun _ ps q => ⟨#[], by rw [q]; simp⟩⟩
theorem Un.refl : Un fs ex H H h h := Un.kept fun _ _ q => q
theorem Un.laid (k : ∀ b u, h.get? b = some u → h'.get? b = some u) (hp : h.objs.size ≤ a) (hn : H a = none) : Un fs ex H (upd H a o) h h' where
  keep := fun b u q _ _ _ => k b u q
  slot := fun b u q _ _ _ => ⟨u.slots, k b u q⟩
  free := fun b u q n _ => by rw [upd_ne (Nat.ne_of_lt (Nat.lt_of_lt_of_le (Heap.lt_size q) hp))]; exact n
  there := fun b u q _ => ⟨u, k b u q⟩
  tups := fun b xs q => by rw [upd_ne (ne_of_none q hn)]; exact q
  frzs := fun b u xs q => by rw [upd_ne (ne_of_none q hn)]; exact q
  tbls := fun b ps q => ⟨#[], by rw [upd_ne (ne_of_none q hn), q]; simp⟩
theorem Un.write (mu : Mut (H x)) (he : e = x ∨ H e = some (.own x)) (k : ∀ b u, b ≠ e → h.get? b = some u → h'.get? b = some u) (heo : ∃ u, h'.get? e = some u) : Un fs ex H (upd H x o) h h' := by
  have hx : ∀ b, H b = none → b ≠ x := fun b n z => by subst z; rw [n] at mu; exact mu
  have hb : ∀ b, H b = none → b ≠ e := fun b n z => by
    subst z
    rcases he with r | r
    · exact hx b n r
    · rw [n] at r; cases r
  have hm : ∀ b u, H b = some u → ¬ Mut (some u) → b ≠ x := fun b u q nm z => by subst z; rw [q] at mu; exact nm mu
  refine ⟨fun b u q n _ _ => k b u (hb b n) q, fun b u q n _ _ => ⟨u.slots, k b u (hb b n) q⟩, fun b u q n _ => by rw [upd_ne (hx b n)]; exact n, fun b u q _ => ?_,
    fun b xs q => by rw [upd_ne (hm b _ q fun z => z)]; exact q, fun b u xs q => by rw [upd_ne (hm b _ q fun z => z)]; exact q, fun b ps q => ⟨#[], by rw [upd_ne (hm b _ q fun z => z), q]; simp⟩⟩
  by_cases hbe : b = e
  · subst hbe; exact heo
  · exact ⟨u, k b u hbe q⟩
end

def trk (h : Heap) (H : Hp) : List Addr := (List.range h.objs.size).filter fun a => (H a).isSome
def hidT (h : Heap) (H : Hp) : Heap := PySem.W.hideAll h (trk h H)
theorem hidT_size (h : Heap) (H : Hp) : (hidT h H).objs.size = h.objs.size := PySem.W.hideAll_size _ _
theorem hidT_get {h : Heap} {H : Hp} {b : Addr} {o : Obj} (e : h.get? b = some o) (n : H b = none) : (hidT h H).get? b = some o :=
  PySem.W.hideAll_get _ e fun hm => by
    have q : (H b).isSome = true := (List.mem_filter.mp hm).2
    rw [n] at q; simp at q
theorem of_hidT {h : Heap} {H : Hp} {b : Addr} {o : Obj} (e : (hidT h H).get? b = some o) : h.get? b = some o ∧ H b = none := by
  have e' : h.get? b = some o := PySem.W.of_hideAll (trk h H) e
  refine ⟨e', ?_⟩
  cases q : H b with
  | none => rfl
  | some x =>
    have hm : b ∈ trk h H := List.mem_filter.mpr ⟨List.mem_range.mpr (Heap.lt_size e'), by simp [q]⟩
    have z : (hidT h H).get? b = none := PySem.W.hideAll_none (trk h H) hm
    rw [z] at e; cases e

end L2

namespace L2
open PySem PySem.Spec PyProof.Rows

structure Mod (K : PySem.W.Frag) (mg : Str → Option Value) (base : Heap) : Prop where
  kin : K.In base
  glob : base.Ns mainGlobals mg
  blt : ∃ mb, base.Ns builtinsNs mb ∧ ∀ x : Str, x ≠ "__name__" → mb x = bootBuiltins x
  nolimit : base.NoLimit

structure Cx where
  prog : Program
  w : World
  K : PySem.W.Frag
  mg : Str → Option Value
  base : Heap
  A : Around
  N : List Str
  s₀ : Shared
  H₀ : Hp
  env : Env
  outer : List Env
  stack : List Env
  ex : List Addr
  fn : Str → Bool
  calm : Bool
  pn : List (Addr × Obj)
  xe : Value → Shared → Prop
def frs (l : List Env) : List Addr := l.filterMap (·.frame)
abbrev Cx.fs (X : Cx) : List Addr := frs X.outer

def Vis (sc : Scope) (x : Str) : Prop := sc.names.lookup x = some .local ∨ sc.names.lookup x = some .cell ∨ sc.names.lookup x = some .free
def Loc (sc : Scope) (x : Str) : Prop := sc.names.lookup x = some .local ∨ sc.names.lookup x = some .cell
def Look (env : Env) (h : Heap) (m : Str → Option Value) (x : Str) (u : Value) : Prop :=
  (env.kindOf x = some .local ∧ m x = some u) ∨ ((env.kindOf x = some .cell ∨ env.kindOf x = some .free) ∧ ∃ c, env.cells.lookup x = some c ∧ h.IsCell c (some u))

structure Cx.Ok (X : Cx) : Prop where
  mod : Mod X.K X.mg X.base
  kind : X.env.scope.kind = .function
  glob : X.env.globals = mainGlobals
  blt : X.env.builtins = builtinsNs
  above : X.s₀.heap.objs.size ≤ X.env.locals
  inj : ∀ x y c, X.env.cells.lookup x = some c → X.env.cells.lookup y = some c → x = y
  has : ∀ x, (X.env.kindOf x = some .cell ∨ X.env.kindOf x = some .free) → ∃ c, X.env.cells.lookup x = some c
  cab : ∀ x c, X.fn x = true → X.env.cells.lookup x = some c → X.s₀.heap.objs.size ≤ c
  hd : X.calm = true → X.A.handled = none
  frames : X.A.frames = some X.stack
  stk : X.stack = X.outer ∨ (X.stack = X.env :: X.outer ∧ X.env.frame = some X.env.locals)
  exf : ∀ b ∈ X.ex, b ≠ X.env.locals ∧ ∀ x c, X.env.cells.lookup x = some c → c ≠ b
  bs : ∀ b o, X.base.get? b = some o → X.s₀.heap.get? b = some o ∧ X.H₀ b = none
  bsz : X.base.objs.size ≤ X.s₀.heap.objs.size
  noex : ∀ b o, X.base.get? b = some o → b ∉ X.ex
  exfs : ∀ b ∈ X.ex, b ∉ X.fs
  funs : X.s₀.heap.FunFrames X.base X.outer
  frf : ∀ b ∈ X.fs, X.H₀ b = none

structure Inv (X : Cx) (pins : List (Addr × Obj)) (σ : List (Option V)) (H : Hp) (s : Shared) : Prop where
  ok : X.Ok
  os : s.os = X.s₀.os
  bare : AllBare s.gens
  base : Un X.fs X.ex X.H₀ H X.s₀.heap s.heap
  loc : ∃ m, s.heap.Ns X.env.locals m ∧ ∀ (i : Nat) (x : Str) (v : V), X.N[i]? = some x → σ[i]? = some (some v) → Vis X.env.scope x → ∃ u, RelV v u ∧ Look X.env s.heap m x u
  cell : ∀ x c, X.env.cells.lookup x = some c → ∃ v, s.heap.IsCell c v
  free : H X.env.locals = none
  freeC : ∀ x c, X.env.cells.lookup x = some c → H c = none
  pin : ∀ p ∈ X.pn ++ pins, s.heap.get? p.1 = some p.2 ∧ H p.1 = none ∧ p.1 ≠ X.env.locals ∧ p.1 ∉ X.fs ∧ ∀ v, p.2.data ≠ .cell v
  hok : HOk X.prog X.w H s.heap
  len : σ.length = X.N.length

section
variable {X : Cx} {pins : List (Addr × Obj)} {σ : List (Option V)} {H H' : Hp} {s : Shared} {h' : Heap}

theorem Cx.Ok.nofr (ok : X.Ok) {b : Addr} {o : Obj} (e : X.base.get? b = some o) : b ∉ X.fs := fun hb => by
  have := (ok.funs.mem hb).1
  rw [e] at this; cases this
theorem Inv.bs (I : Inv X pins σ H s) : ∀ b o, X.base.get? b = some o → s.heap.get? b = some o ∧ H b = none := fun b o e =>
  ⟨I.base.keep b o (I.ok.bs b o e).1 (I.ok.bs b o e).2 (I.ok.nofr e) (I.ok.noex b o e), I.base.free b o (I.ok.bs b o e).1 (I.ok.bs b o e).2 (I.ok.noex b o e)⟩
theorem Inv.bk (I : Inv X pins σ H s) : ∀ b o, X.base.get? b = some o → s.heap.get? b = some o := fun b o e => (I.bs b o e).1
theorem Inv.mod (I : Inv X pins σ H s) : Mod X.K X.mg X.base := I.ok.mod
theorem Inv.kIn (I : Inv X pins σ H s) : X.K.In s.heap := I.ok.mod.kin.keeps I.bk
theorem Inv.lt (I : Inv X pins σ H s) : X.env.locals < s.heap.objs.size := let ⟨_, hn, _⟩ := I.loc; hn.lt
theorem Inv.sz (I : Inv X pins σ H s) : X.s₀.heap.objs.size ≤ s.heap.objs.size := Nat.le_trans I.ok.above (Nat.le_of_lt I.lt)
theorem Inv.nofs (I : Inv X pins σ H s) {a : Addr} (h : s.heap.objs.size ≤ a) : a ∉ X.fs := fun hb => by
  obtain ⟨_, o, ho, _⟩ := I.ok.funs.mem hb
  exact absurd (Nat.lt_of_lt_of_le (Heap.lt_size ho) (Nat.le_trans I.sz h)) (Nat.lt_irrefl _)
theorem Inv.cne (I : Inv X pins σ H s) : ∀ x c, X.env.cells.lookup x = some c → c ≠ X.env.locals := fun x c e z => by
  obtain ⟨v, o, ho, hd⟩ := I.cell x c e
  obtain ⟨m, ⟨o', es, ep, ho', hd', _⟩, _⟩ := I.loc
  rw [z, ho'] at ho; cases ho; rw [hd'] at hd; cases hd
theorem Inv.funs (I : Inv X pins σ H s) : s.heap.FunFrames X.base X.outer := by
  have all : ∀ (l : List Env), (∀ b ∈ frs l, b ∈ X.fs) → X.s₀.heap.FunFrames X.base l → s.heap.FunFrames X.base l := by
    intro l
    induction l with
    | nil => intro _ _; trivial
    | cons env r ih =>
      intro hs hl
      obtain ⟨hk, ⟨L, o, hf, hn, ho, hd⟩, hr⟩ := hl
      have hL : L ∈ X.fs := hs L (by unfold frs; rw [List.filterMap_cons, hf]; exact List.mem_cons_self)
      obtain ⟨sl, e⟩ := I.base.slot L o ho (I.ok.frf L hL) hL fun z => I.ok.exfs L z hL
      exact ⟨hk, ⟨L, _, hf, hn, e, hd⟩, ih (fun b hb => hs b (by unfold frs; rw [List.filterMap_cons, hf]; exact List.mem_cons_of_mem _ hb)) hr⟩
  exact all X.outer (fun _ hb => hb) I.ok.funs

theorem Inv.stack (I : Inv X pins σ H s) : s.heap.FunFrames X.base X.stack := by
  rcases I.ok.stk with e | ⟨e, hf⟩
  · rw [e]; exact I.funs
  · rw [e]
    obtain ⟨m, hn, _⟩ := I.loc
    refine .cons (by rw [I.ok.kind]; decide) hf hn ?_ I.funs
    exact Heap.get?_none_of_le (Nat.le_trans I.ok.bsz I.ok.above)
theorem Inv.stkSub (I : Inv X pins σ H s) : ∀ b ∈ frs X.stack, b ∈ X.env.locals :: X.fs := fun b hb => by
  rcases I.ok.stk with e | ⟨e, hf⟩
  · rw [e] at hb; exact List.mem_cons_of_mem _ hb
  · rw [e] at hb
    unfold frs at hb
    rw [List.filterMap_cons, hf] at hb
    exact hb
theorem Inv.stkFree (I : Inv X pins σ H s) : ∀ b ∈ frs X.stack, H b = none := fun b hb => by
  rcases List.mem_cons.mp (I.stkSub b hb) with e | hb
  · rw [e]; exact I.free
  · obtain ⟨_, o, ho, _⟩ := I.ok.funs.mem hb
    exact I.base.free b o ho (I.ok.frf b hb) fun z => I.ok.exfs b z hb

theorem Inv.step {g' : Array GenState} {t' : Nat} {d' : Drawn} {ch : List Addr} (I : Inv X pins σ H s)
    (hch : ∀ b ∈ ch, (b ∈ X.ex ∨ X.s₀.heap.objs.size ≤ b) ∧ b ≠ X.env.locals ∧ (∀ x c, X.env.cells.lookup x = some c → c ≠ b) ∧ ∀ p ∈ X.pn ++ pins, p.1 ≠ b)
    (keep : ∀ b o, b ≠ X.env.locals → b ∉ X.fs → b ∉ ch → s.heap.get? b = some o → H b = none → h'.get? b = some o)
    (slot : ∀ b o, b ≠ X.env.locals → b ∈ X.fs → b ∉ ch → s.heap.get? b = some o → H b = none → ∃ sl, h'.get? b = some { o with slots := sl }) (free : ∀ b o, b ∉ ch → s.heap.get? b = some o → H b = none → H' b = none)
    (there : ∀ b o, b ∉ ch → s.heap.get? b = some o → ∃ o', h'.get? b = some o')
    (tups : ∀ b xs, H b = some (.tup xs) → H' b = some (.tup xs)) (frzs : ∀ b o u, H b = some (.frz o u) → H' b = some (.frz o u)) (tbls : ∀ b ps, H b = some (.tbl ps) → ∃ more, H' b = some (.tbl (ps ++ more)))
    (ns : ∀ m, s.heap.Ns X.env.locals m → h'.Ns X.env.locals m) (hok : HOk X.prog X.w H' h') (hg : AllBare g') :
    Inv X pins σ H' { s with heap := h', gens := g', drawn := d', toks := t' } := by
  have neL : ∀ b o, X.s₀.heap.get? b = some o → b ≠ X.env.locals := fun b o e => Nat.ne_of_lt (Nat.lt_of_lt_of_le (Heap.lt_size e) I.ok.above)
  have neC : ∀ b o, X.s₀.heap.get? b = some o → b ∉ X.ex → b ∉ ch := fun b o e hx hb => by
    rcases (hch b hb).1 with z | z
    · exact hx z
    · exact absurd (Nat.lt_of_lt_of_le (Heap.lt_size e) z) (Nat.lt_irrefl _)
  have cellK : ∀ x c, X.env.cells.lookup x = some c → ∀ v, s.heap.IsCell c v → h'.IsCell c v := fun x c e v ⟨o, ho, hd⟩ => by
    have nch : c ∉ ch := fun z => (hch c z).2.2.1 x c e rfl
    by_cases hc : c ∈ X.fs
    · obtain ⟨sl, q⟩ := slot c o (I.cne x c e) hc nch ho (I.freeC x c e)
      exact ⟨_, q, hd⟩
    · exact ⟨o, keep c o (I.cne x c e) hc nch ho (I.freeC x c e), hd⟩
  refine ⟨I.ok, I.os, hg, ⟨fun b o e n hb hx => ?_, fun b o e n hb hx => ?_, fun b o e n hx => ?_, fun b o e hx => ?_, fun b xs e => tups b xs (I.base.tups b xs e), fun b o xs e => frzs b o xs (I.base.frzs b o xs e), fun b ps e => ?_⟩, ?_, fun x c e => ?_, ?_, fun x c e => ?_, fun p hp => ?_, hok, I.len⟩
  · exact keep b o (neL b o e) hb (neC b o e hx) (I.base.keep b o e n hb hx) (I.base.free b o e n hx)
  · obtain ⟨sl, e1⟩ := I.base.slot b o e n hb hx
    obtain ⟨sl', e2⟩ := slot b _ (neL b o e) hb (neC b o e hx) e1 (I.base.free b o e n hx)
    exact ⟨sl', e2⟩
  · obtain ⟨o', e1⟩ := I.base.there b o e hx
    exact free b o' (neC b o e hx) e1 (I.base.free b o e n hx)
  · obtain ⟨o', e1⟩ := I.base.there b o e hx
    exact there b o' (neC b o e hx) e1
  · obtain ⟨m1, e1⟩ := I.base.tbls b ps e
    obtain ⟨m2, e2⟩ := tbls b _ e1
    exact ⟨m1 ++ m2, by rw [e2, Array.append_assoc]⟩
  · obtain ⟨m, hn, hl⟩ := I.loc
    refine ⟨m, ns m hn, fun i x v e1 e2 e3 => ?_⟩
    obtain ⟨u, r, l⟩ := hl i x v e1 e2 e3
    refine ⟨u, r, ?_⟩
    rcases l with l | ⟨k, c, e, z⟩
    · exact .inl l
    · exact .inr ⟨k, c, e, cellK x c e _ z⟩
  · obtain ⟨v, z⟩ := I.cell x c e
    exact ⟨v, cellK x c e v z⟩
  · obtain ⟨m, ⟨o, _, _, ho, _⟩, _⟩ := I.loc
    exact free _ o (fun z => (hch _ z).2.1 rfl) ho I.free
  · obtain ⟨v, o, ho, hd⟩ := I.cell x c e
    exact free c o (fun z => (hch c z).2.2.1 x c e rfl) ho (I.freeC x c e)
  · obtain ⟨e, n, ne, nf, d⟩ := I.pin p hp
    have nch : p.1 ∉ ch := fun z => (hch p.1 z).2.2.2 p hp rfl
    exact ⟨keep p.1 p.2 ne nf nch e n, free p.1 p.2 nch e n, ne, nf, d⟩
theorem Inv.un {t' : Nat} (I : Inv X pins σ H s) (u : Un X.fs [] H H' s.heap h') (hok : HOk X.prog X.w H' h') : Inv X pins σ H' { s with heap := h', toks := t' } := by
  obtain ⟨m, ⟨o, es, ep, ho, r⟩, _⟩ := id I.loc
  obtain ⟨sl, hL⟩ := u.any ho I.free (by simp)
  exact I.step (g' := s.gens) (d' := s.drawn) (ch := []) (fun _ z => nomatch z) (fun b o _ hb _ e n => u.keep b o e n hb (by simp)) (fun b o _ hb _ e n => u.slot b o e n hb (by simp)) (fun b o _ e n => u.free b o e n (by simp)) (fun b o _ e => u.there b o e (by simp)) u.tups u.frzs u.tbls (fun m' hm => by
    obtain ⟨o', es', ep', ho', r'⟩ := hm
    rw [ho] at ho'; cases ho'
    exact ⟨_, es', ep', hL, r'⟩) hok I.bare
theorem Inv.call {g' : Array GenState} {t' : Nat} {d' : Drawn} {ch : List Addr} (I : Inv X pins σ H s) (u : Un (frs X.stack) ch H H' s.heap h') (hok : HOk X.prog X.w H' h') (hg : AllBare g')
    (hch : ∀ b ∈ ch, (b ∈ X.ex ∨ X.s₀.heap.objs.size ≤ b) ∧ b ≠ X.env.locals ∧ (∀ x c, X.env.cells.lookup x = some c → c ≠ b) ∧ ∀ p ∈ X.pn ++ pins, p.1 ≠ b) :
    Inv X pins σ H' { s with heap := h', gens := g', drawn := d', toks := t' } := by
  obtain ⟨m, ⟨o, es, ep, ho, r⟩, _⟩ := id I.loc
  obtain ⟨sl, hL⟩ := u.any ho I.free fun z => (hch _ z).2.1 rfl
  exact I.step (ch := ch) hch (fun b o hL hb hc e n => u.keep b o e n (fun z => (List.mem_cons.mp (I.stkSub b z)).elim hL hb) hc) (fun b o _ _ hc e n => u.any e n hc) (fun b o hc e n => u.free b o e n hc) (fun b o hc e => u.there b o e hc) u.tups u.frzs u.tbls (fun m' hm => by
    obtain ⟨o', es', ep', ho', r'⟩ := hm
    rw [ho] at ho'; cases ho'
    exact ⟨_, es', ep', hL, r'⟩) hok hg
theorem Inv.turned {t' : Nat} {it : Addr} (I : Inv X pins σ H s) (k : ∀ b o, b ≠ it → s.heap.get? b = some o → h'.get? b = some o) (hn : H it = none) (hL : it ≠ X.env.locals)
    (h1 : it ∈ X.ex ∨ X.s₀.heap.objs.size ≤ it) (h2 : ∀ x c, X.env.cells.lookup x = some c → c ≠ it) (h3 : ∀ p ∈ X.pn ++ pins, p.1 ≠ it) : Inv X pins σ H { s with heap := h', toks := t' } := by
  have nit : ∀ b u, H b = some u → b ≠ it := fun b u e z => by rw [z, hn] at e; cases e
  refine I.step (g' := s.gens) (d' := s.drawn) (ch := [it]) (fun b hb => ?_) (fun b o _ _ hc e _ => k b o (fun z => hc (by simp [z])) e) (fun b o _ _ hc e _ => ⟨o.slots, k b o (fun z => hc (by simp [z])) e⟩) (fun _ _ _ _ n => n)
    (fun b o hc e => ⟨o, k b o (fun z => hc (by simp [z])) e⟩) (fun _ _ e => e) (fun _ _ _ e => e) (fun b ps e => ⟨#[], by rw [e]; simp⟩) (fun m hm => ?_) (fun b u e => ?_) I.bare
  · have e : b = it := by simpa using hb
    subst e
    exact ⟨h1, hL, h2, h3⟩
  · obtain ⟨o, es, ep, ho, r⟩ := hm
    exact ⟨o, es, ep, k _ o (Ne.symm hL) ho, r⟩
  · refine (I.hok b u e).stay (fun c v hc q => k c v ?_ q) (fun _ q => q) fun _ _ q => q
    rcases hc with z | z
    · rw [z]; exact nit b u e
    · exact nit c _ z
theorem Inv.tok (I : Inv X pins σ H s) (t : Nat) : Inv X pins σ H { s with toks := t } := I.un (h' := s.heap) (t' := t) Un.refl I.hok
theorem Inv.kept {t' : Nat} (I : Inv X pins σ H s) (k : ∀ b u, s.heap.get? b = some u → h'.get? b = some u) : Inv X pins σ H { s with heap := h', toks := t' } := I.un (Un.kept k) (I.hok.kept k)
theorem Inv.laid {a : Addr} {o : HO} {t' : Nat} (I : Inv X pins σ H s) (k : ∀ b u, s.heap.get? b = some u → h'.get? b = some u) (hp : s.heap.objs.size ≤ a) (new : ObjOk X.prog X.w (upd H a o) h' a o) :
    Inv X pins σ (upd H a o) { s with heap := h', toks := t' } := I.un (Un.laid k hp (I.hok.fresh hp)) (I.hok.laid k hp new)
theorem Inv.write {x e : Addr} {o : HO} {t' : Nat} (I : Inv X pins σ H s) (mu : Mut (H x)) (he : e = x ∨ H e = some (.own x)) (k : ∀ b u, b ≠ e → s.heap.get? b = some u → h'.get? b = some u) (heo : ∃ u, h'.get? e = some u)
    (new : ObjOk X.prog X.w (upd H x o) h' x o) : Inv X pins σ (upd H x o) { s with heap := h', toks := t' } := I.un (Un.write mu he k heo) (I.hok.write mu he k heo new)
theorem Inv.pins_of {pins' : List (Addr × Obj)} (I : Inv X pins σ H s) (h : ∀ p ∈ pins', s.heap.get? p.1 = some p.2 ∧ H p.1 = none ∧ p.1 ≠ X.env.locals ∧ p.1 ∉ X.fs ∧ ∀ v, p.2.data ≠ .cell v) : Inv X pins' σ H s :=
  ⟨I.ok, I.os, I.bare, I.base, I.loc, I.cell, I.free, I.freeC, fun p hp => (List.mem_append.mp hp).elim (fun z => I.pin p (List.mem_append_left _ z)) (h p), I.hok, I.len⟩

theorem nodup_ix {N : List Str} (hN : N.Nodup) {i j : Nat} {x : Str} (a : N[i]? = some x) (b : N[j]? = some x) : i = j := by
  obtain ⟨h1, e1⟩ := List.getElem?_eq_some_iff.mp a
  obtain ⟨h2, e2⟩ := List.getElem?_eq_some_iff.mp b
  exact (List.getElem_inj hN).mp (e1.trans e2.symm)

theorem store_ok2 {M : Model} {A : Around} {E : Value → Shared → Prop} {i : Nat} {x : Str} {v : V} {u : Value} {Q : Unit → Shared → Prop} (I : Inv X pins σ H s) (hN : X.N.Nodup) (hi : X.N[i]? = some x) (hx : Loc X.env.scope x) (r : RelV v u)
    (h : ∀ s', Inv X pins (σ.set i (some v)) H s' → (∃ a, Heap.SameBut a s.heap s'.heap ∧ (a = X.env.locals ∨ X.env.cells.lookup x = some a)) → Q () s') (hf : X.fn x = true ∨ X.env.scope.names.lookup x = some .local := by first | exact .inl rfl | exact .inr rfl | assumption) : wpAny M A (storeName X.env x u) Q E s := by
  obtain ⟨m, hn, hl⟩ := id I.loc
  have hcls : (X.env.scope.kind == .class || (X.env.scope.kind == .module && X.env.locals != X.env.globals)) = false := by rw [I.ok.kind]; rfl
  have hiσ : i < σ.length := by rw [I.len]; exact (List.getElem?_eq_some_iff.mp hi).1
  have cne := I.cne
  have tracked : ∀ {a : Addr} {h' : Heap}, (∃ o, s.heap.get? a = some o ∧ H a = none) → Heap.SameBut a s.heap h' → HOk X.prog X.w H h' := fun {a h'} ha hs b ob e => by
    obtain ⟨_, _, hfree⟩ := ha
    refine (I.hok b ob e).stay (fun c w' hc q => (hs.2 c ?_).trans q) (fun _ q => q) fun _ _ q => q
    rintro rfl
    rcases hc with rfl | hc
    · rw [hfree] at e; cases e
    · rw [hfree] at hc; cases hc
  rcases hx with hk | hk
  · refine wpAny_storeName_local hk hn (fun h' hn' hs => ?_) hcls
    obtain ⟨oL, _, _, hoL, _⟩ := id hn
    refine h _ ⟨I.ok, I.os, I.bare, ⟨fun b o e n hb hx => ?_, fun b o e n hb hx => ?_, I.base.free, fun b o e hx => ?_, I.base.tups, I.base.frzs, I.base.tbls⟩, ⟨_, hn', fun j y v' e1 e2 e3 => ?_⟩, fun y c e => ?_, I.free, I.freeC, fun p hp => ?_, tracked ⟨oL, hoL, I.free⟩ hs, by simpa using I.len⟩ ⟨_, hs, .inl rfl⟩
    · exact (hs.2 b (Nat.ne_of_lt (Nat.lt_of_lt_of_le (Heap.lt_size e) I.ok.above))).trans (I.base.keep b o e n hb hx)
    · obtain ⟨sl, e1⟩ := I.base.slot b o e n hb hx
      exact ⟨sl, (hs.2 b (Nat.ne_of_lt (Nat.lt_of_lt_of_le (Heap.lt_size e) I.ok.above))).trans e1⟩
    · obtain ⟨o', e1⟩ := I.base.there b o e hx
      exact ⟨o', (hs.2 b (Nat.ne_of_lt (Nat.lt_of_lt_of_le (Heap.lt_size e) I.ok.above))).trans e1⟩
    · by_cases hj : j = i
      · subst hj
        rw [hi] at e1; cases e1
        rw [List.getElem?_set_self hiσ] at e2
        cases e2
        exact ⟨u, r, .inl ⟨hk, by simp⟩⟩
      · rw [List.getElem?_set_ne (Ne.symm hj)] at e2
        obtain ⟨u', r', q⟩ := hl j y v' e1 e2 e3
        refine ⟨u', r', ?_⟩
        rcases q with ⟨k, e⟩ | ⟨k, c, e, z⟩
        · refine .inl ⟨k, ?_⟩
          have : y ≠ x := fun e => hj (nodup_ix hN e1 (e ▸ hi))
          simp [this, e]
        · exact .inr ⟨k, c, e, z.sameBut hs (cne y c e)⟩
    · obtain ⟨w', z⟩ := I.cell y c e
      exact ⟨w', z.sameBut hs (cne y c e)⟩
    · obtain ⟨e, n, ne, nf, d⟩ := I.pin p hp
      exact ⟨(hs.2 p.1 ne).trans e, n, ne, nf, d⟩
  · have hfn : X.fn x = true := by
      rcases hf with z | z
      · exact z
      · rw [z] at hk; cases hk
    obtain ⟨c, hc⟩ := I.ok.has x (.inl hk)
    obtain ⟨w', z⟩ := I.cell x c hc
    refine wpAny_storeName_cell I.ok.kind hk hc z (fun h' hc' hs => ?_)
    obtain ⟨oc, hoc, hocd⟩ := id z
    refine h { s with heap := h' } ⟨I.ok, I.os, I.bare, ⟨fun b o e n hb hx => ?_, fun b o e n hb hx => ?_, I.base.free, fun b o e hx => ?_, I.base.tups, I.base.frzs, I.base.tbls⟩, ⟨m, hn.sameBut hs (Ne.symm (cne x c hc)), fun j y v' e1 e2 e3 => ?_⟩, fun y c' e => ?_, I.free, I.freeC, fun p hp => ?_, tracked ⟨oc, hoc, I.freeC x c hc⟩ hs, by simpa using I.len⟩ ⟨c, hs, .inr hc⟩
    · exact (hs.2 b (Nat.ne_of_lt (Nat.lt_of_lt_of_le (Heap.lt_size e) (I.ok.cab x c hfn hc)))).trans (I.base.keep b o e n hb hx)
    · obtain ⟨sl, e1⟩ := I.base.slot b o e n hb hx
      exact ⟨sl, (hs.2 b (Nat.ne_of_lt (Nat.lt_of_lt_of_le (Heap.lt_size e) (I.ok.cab x c hfn hc)))).trans e1⟩
    · obtain ⟨o', e1⟩ := I.base.there b o e hx
      exact ⟨o', (hs.2 b (Nat.ne_of_lt (Nat.lt_of_lt_of_le (Heap.lt_size e) (I.ok.cab x c hfn hc)))).trans e1⟩
    · by_cases hj : j = i
      · subst hj
        rw [hi] at e1; cases e1
        rw [List.getElem?_set_self hiσ] at e2
        cases e2
        exact ⟨u, r, .inr ⟨.inl hk, c, hc, hc'⟩⟩
      · rw [List.getElem?_set_ne (Ne.symm hj)] at e2
        obtain ⟨u', r', q⟩ := hl j y v' e1 e2 e3
        refine ⟨u', r', ?_⟩
        rcases q with q | ⟨k, c', e, z'⟩
        · exact .inl q
        · refine .inr ⟨k, c', e, z'.sameBut hs ?_⟩
          rintro rfl
          exact hj (nodup_ix hN e1 (I.ok.inj _ _ _ e hc ▸ hi))
    · by_cases hcc : c' = c
      · subst hcc; exact ⟨_, hc'⟩
      · obtain ⟨w2, z2⟩ := I.cell y c' e
        exact ⟨w2, z2.sameBut hs hcc⟩
    · obtain ⟨e, n, ne, nf, d⟩ := I.pin p hp
      refine ⟨(hs.2 p.1 ?_).trans e, n, ne, nf, d⟩
      intro q
      rw [q, hoc] at e
      have q' : oc = p.2 := Option.some.inj e
      exact d w' (by rw [← q']; exact hocd)
theorem store_ok {M : Model} {A : Around} {E : Value → Shared → Prop} {i : Nat} {x : Str} {v : V} {u : Value} {Q : Unit → Shared → Prop} (I : Inv X pins σ H s) (hN : X.N.Nodup) (hi : X.N[i]? = some x) (hx : Loc X.env.scope x) (r : RelV v u)
    (h : ∀ s', Inv X pins (σ.set i (some v)) H s' → Q () s') (hf : X.fn x = true ∨ X.env.scope.names.lookup x = some .local := by first | exact .inl rfl | exact .inr rfl | assumption) : wpAny M A (storeName X.env x u) Q E s :=
  store_ok2 I hN hi hx r (fun s' I' _ => h s' I') hf
theorem Inv.call' {s' : Shared} {ch : List Addr} (I : Inv X pins σ H s) (ho : s'.os = s.os) (u : Un (frs X.stack) ch H H' s.heap s'.heap) (hok : HOk X.prog X.w H' s'.heap) (hg : AllBare s'.gens)
    (hch : ∀ b ∈ ch, (b ∈ X.ex ∨ X.s₀.heap.objs.size ≤ b) ∧ b ≠ X.env.locals ∧ (∀ x c, X.env.cells.lookup x = some c → c ≠ b) ∧ ∀ p ∈ X.pn ++ pins, p.1 ≠ b) : Inv X pins σ H' s' := by
  obtain ⟨h', g', d', t', o'⟩ := s'
  have e : o' = s.os := ho
  subst e
  exact I.call (g' := g') (t' := t') (d' := d') u hok hg hch
end

abbrev XK := Value → Option Addr → Hp → Prop
abbrev St := List (Option V)
abbrev VK := V → Hp → Prop
abbrev TE := St → Hp → VK → Prop
abbrev TT := St → Hp → (Bool → Hp → Prop) → Prop
abbrev TA := St → Hp → (List V → Hp → Prop) → Prop
structure Ends where
  nx : St → Hp → Prop
  rt : VK
  bk : St → Hp → Prop := fun _ _ => False
  ct : St → Hp → Prop := fun _ _ => False
abbrev TS := Ends → St → Hp → Prop

def EP (X : Cx) (pins : List (Addr × Obj)) (σ : St) (Q : VK) (u : Value) (s' : Shared) : Prop := ∃ v H', Inv X pins σ H' s' ∧ RelV v u ∧ Q v H'
def TP (X : Cx) (pins : List (Addr × Obj)) (σ : St) (Q : Bool → Hp → Prop) (b : Bool) (s' : Shared) : Prop := ∃ H', Inv X pins σ H' s' ∧ Q b H'
def AP (X : Cx) (pins : List (Addr × Obj)) (σ : St) (Q : List V → Hp → Prop) (us : List Value) (s' : Shared) : Prop := ∃ vs H', Inv X pins σ H' s' ∧ Vals vs us ∧ Q vs H'
def SP (X : Cx) (pins : List (Addr × Obj)) (D : Ends) (f : Flow) (s' : Shared) : Prop :=
  match f with
  | .next => ∃ σ' H', Inv X pins σ' H' s' ∧ D.nx σ' H'
  | .brk => ∃ σ' H', Inv X pins σ' H' s' ∧ D.bk σ' H'
  | .cont => ∃ σ' H', Inv X pins σ' H' s' ∧ D.ct σ' H'
  | .ret u => ∃ v σ' H', Inv X pins σ' H' s' ∧ RelV v u ∧ D.rt v H'

def PE (X : Cx) (e : Expr) (t : TE) : Prop :=
  ∀ (pins : List (Addr × Obj)) (s : Shared) (σ : St) (H : Hp) (Q : VK), Inv X pins σ H s → t σ H Q → wpAny (model X.prog X.w) X.A (eval e X.env) (EP X pins σ Q) X.xe s
def PT (X : Cx) (e : Expr) (t : TT) : Prop :=
  ∀ (pins : List (Addr × Obj)) (s : Shared) (σ : St) (H : Hp) (Q : Bool → Hp → Prop), Inv X pins σ H s → t σ H Q → wpAny (model X.prog X.w) X.A (isTrue e X.env (eval e X.env)) (TP X pins σ Q) X.xe s
def PW (X : Cx) (e : Expr) (t : TT) : Prop :=
  ∀ (whole : Sem Value) (pins : List (Addr × Obj)) (s : Shared) (σ : St) (H : Hp) (Q : Bool → Hp → Prop), Inv X pins σ H s → t σ H Q → wpAny (model X.prog X.w) X.A (isTrue e X.env whole) (TP X pins σ Q) X.xe s
theorem PW.pt {X : Cx} {e : Expr} {t : TT} (h : PW X e t) : PT X e t := h _
def PA (X : Cx) (es : List Expr) (t : TA) : Prop :=
  ∀ (pos : Pos) (pins : List (Addr × Obj)) (s : Shared) (σ : St) (H : Hp) (Q : List V → Hp → Prop), Inv X pins σ H s → t σ H Q → wpAny (model X.prog X.w) X.A (spliced (backTo pos (starEach es X.env))) (AP X pins σ Q) X.xe s
def PS (X : Cx) (st : Stmt) (t : TS) : Prop :=
  ∀ (pins : List (Addr × Obj)) (s : Shared) (σ : St) (H : Hp) (D : Ends), Inv X pins σ H s → t D σ H → wpAny (model X.prog X.w) X.A (exec st X.env) (SP X pins D) X.xe s
def PSs (X : Cx) (st : List Stmt) (t : TS) : Prop :=
  ∀ (pins : List (Addr × Obj)) (s : Shared) (σ : St) (H : Hp) (D : Ends), Inv X pins σ H s → t D σ H → wpAny (model X.prog X.w) X.A (execs st X.env) (SP X pins D) X.xe s
theorem thn {α : Type} {t : Sem α} {Q Q' : α → Shared → Prop} {M : Model} {A : Around} {E : Value → Shared → Prop} {s : Shared} (h : wpAny M A t Q E s) (hQ : ∀ a s, Q a s → Q' a s) : wpAny M A t Q' E s := wpAny_mono h hQ fun _ _ x => x
end L2

namespace L2
open PySem PySem.Spec PyProof.Rows
section
variable {X : Cx}

def tVar (i : Nat) : TE := fun σ H Q => ∃ v, σ[i]? = some (some v) ∧ Q v H
def tC (v : V) : TE := fun _ H Q => Q v H
theorem pe_var {i : Nat} {x : Str} {pos : Pos} (hN : X.N[i]? = some x) (hv : Vis X.env.scope x) (hd : (x == ("__debug__" : Str)) = false := by decide) (hcd : (x == ("__classdict__" : Str)) = false := by decide) : PE X (.Name x pos) (tVar i) := by
  intro pins s σ H Q I h
  obtain ⟨v, e, h⟩ := h
  obtain ⟨m, hn, hl⟩ := I.loc
  obtain ⟨u, r, l⟩ := hl i x v hN e hv
  have fin : EP X pins σ Q u s := ⟨v, H, I, r, h⟩
  rcases l with ⟨hk, hm⟩ | ⟨hk, c, hc, hcell⟩
  · exact wpAny_Name (wpAny_loadName_local I.ok.kind hk hn hm fin) hd
  · rcases hk with hk | hk
    · exact wpAny_Name (wpAny_loadName_cell I.ok.kind hk hc hcell fin) hd
    · exact wpAny_Name (wpAny_loadName_free I.ok.kind hk hc hcell fin hcd) hd
theorem pe_int {i j pos} : PE X (.Constant (.int i) j pos) (tC (.int i)) := fun _ _ _ H _ I h => wpAny_Constant_int ⟨.int i, H, I.tok _, ⟨_, rfl⟩, h⟩
theorem pe_bl {b j pos} : PE X (.Constant (.bool b) j pos) (tC (.bl b)) := fun _ _ _ H _ I h => Constant_bool ⟨.bl b, H, I, rfl, h⟩
theorem pe_str {x j pos} : PE X (.Constant (.str x) j pos) (tC (.str x)) := fun _ _ _ H _ I h => Calls.Constant_str ⟨.str x, H, I.tok _, ⟨_, rfl⟩, h⟩

def Gl (X : Cx) (x : Str) : Prop := X.env.kindOf x = some .globalImplicit
theorem ld_glob {E : Value → Shared → Prop} {pins : List (Addr × Obj)} {s : Shared} {σ : St} {H : Hp} {x : Str} {u : Value} {pos : Pos} {Q : Value → Shared → Prop} (I : Inv X pins σ H s) (hg : Gl X x) (hm : X.mg x = some u) (h : Q u s)
    (hd : (x == ("__debug__" : Str)) = false := by decide) : wpAny (model X.prog X.w) X.A (eval (.Name x pos) X.env) Q E s :=
  Calls.Name_function_global I.ok.kind hg (Calls.loadGlobal_global (by rw [I.ok.glob]; exact I.mod.glob.keeps I.bk) hm h) hd
theorem ld_blt {E : Value → Shared → Prop} {pins : List (Addr × Obj)} {s : Shared} {σ : St} {H : Hp} {x : Str} {u : Value} {pos : Pos} {Q : Value → Shared → Prop} (I : Inv X pins σ H s) (hg : Gl X x) (hm : X.mg x = none) (hv : bootBuiltins x = some u) (h : Q u s)
    (hn : x ≠ "__name__" := by decide) (hd : (x == ("__debug__" : Str)) = false := by decide) : wpAny (model X.prog X.w) X.A (eval (.Name x pos) X.env) Q E s := by
  obtain ⟨mb, h1, h2⟩ := I.mod.blt
  exact Calls.Name_function_global I.ok.kind hg (Calls.loadGlobal_builtin (by rw [I.ok.glob]; exact I.mod.glob.keeps I.bk) hm (by rw [I.ok.blt]; exact h1.keeps I.bk) ((h2 x hn).trans hv) h) hd
theorem pe_bltn {x : Str} {v : V} {u : Value} {pos : Pos} (hg : Gl X x) (hm : X.mg x = none) (hv : bootBuiltins x = some u) (r : RelV v u) (hn : x ≠ "__name__" := by decide) (hd : (x == ("__debug__" : Str)) = false := by decide) : PE X (.Name x pos) (tC v) :=
  fun _ _ _ H _ I h => ld_blt I hg hm hv ⟨v, H, I, r, h⟩ hn hd

variable {a b : Expr} {ta tb : TE} {pos : Pos}
def tB (t : TE) : TT := fun σ H Q => t σ H fun x H1 => ∃ c, x = .bl c ∧ Q c H1
theorem pt_val {e : Expr} {t : TE} (h : PE X e t) (he : ∀ whole, isTrue e X.env whole = (do let v ← whole; standAt e.pos; holding [v] (truthy v)) := by intro _; rfl) : PT X e (tB t) := by
  intro pins s σ H Q I hw
  refine isTrue_plain (thn (h pins s σ H _ I hw) fun v s1 ⟨x, H1, I1, r1, q1⟩ => ?_) (he _)
  obtain ⟨d, rfl, q⟩ := q1
  cases r1
  exact wpAny_truthy_bool ⟨H1, I1, q⟩

variable {tA tB' : TT} {rest : List Expr}
def tOr (t u : TT) : TT := fun σ H Q => t σ H fun c H1 => if c = true then Q true H1 else u σ H1 Q
def tNot (t : TT) : TT := fun σ H Q => t σ H fun c H1 => Q (!c) H1
theorem pw_or1 (ha : PT X a tA) : PW X (.BoolOp .Or [a] pos) tA := by
  intro wh pins s σ H Q I h
  refine isTrue_or (thn (ha pins s σ H Q I h) fun c s1 e => ?_)
  cases c with
  | false => exact isTrue_or_nil e
  | true => exact e
theorem pw_or (ha : PT X a tA) (hb : PW X (.BoolOp .Or (b :: rest) pos) tB') : PW X (.BoolOp .Or (a :: b :: rest) pos) (tOr tA tB') := by
  intro wh pins s σ H Q I h
  refine isTrue_or (thn (ha pins s σ H _ I h) fun c s1 ⟨H1, I1, q1⟩ => ?_)
  cases c with
  | true => exact ⟨H1, I1, q1⟩
  | false => exact hb wh pins s1 σ H1 Q I1 q1
theorem pt_not (ha : PT X a tA) : PT X (.UnaryOp .Not a pos) (tNot tA) := by
  intro pins s σ H Q I h
  exact isTrue_not (ha pins s σ H (fun c H1 => Q (!c) H1) I h)
def tAndV (ta tb : TE) : TE := fun σ H Q => ta σ H fun x H1 => ∃ c, x = .bl c ∧ if c = true then tb σ H1 Q else Q (.bl false) H1
def tNotV (ta : TE) : TE := fun σ H Q => ta σ H fun x H1 => ∃ c, x = .bl c ∧ Q (.bl (!c)) H1
theorem pe_one {op} {t : TE} (h : PE X a t) : PE X (.BoolOp op [a] pos) t := fun pins s σ H Q I hw => BoolOp_one (h pins s σ H Q I hw)
theorem pe_and (ha : PE X a ta) (hb : PE X (.BoolOp .And (b :: rest) pos) tb) : PE X (.BoolOp .And (a :: b :: rest) pos) (tAndV ta tb) := by
  intro pins s σ H Q I h
  refine BoolOp_and (thn (ha pins s σ H _ I h) fun v s1 ⟨x, H1, I1, r1, q1⟩ => ?_)
  obtain ⟨c, rfl, q1⟩ := q1
  cases r1
  refine wpAny_truthy_bool ?_
  cases c with
  | true => exact hb pins s1 σ H1 Q I1 q1
  | false => exact ⟨.bl false, H1, I1, rfl, q1⟩
theorem pe_not (ha : PE X a ta) : PE X (.UnaryOp .Not a pos) (tNotV ta) := by
  intro pins s σ H Q I h
  refine UnaryOp_ (thn (ha pins s σ H _ I h) fun v s1 ⟨x, H1, I1, r1, q1⟩ => ?_)
  obtain ⟨c, rfl, q1⟩ := q1
  cases r1
  exact not_of (wpAny_truthy_bool ⟨.bl (!c), H1, I1, rfl, q1⟩)
end
end L2

namespace L2
open PySem PySem.Spec PyProof.Rows

def SqL (K : PySem.W.Frag) (H : Hp) (a : Addr) (xs : List V) : Prop :=
  Rd H a (.lst xs) ∨
    ∃ (o : Obj) (its : Array Value) (n : Nat), K.lookup a = some o ∧ o.cls = .type "list" ∧ o.dict = none ∧ o.data = .seq its n ∧ its.size ≤ sizeLine ∧ Vals xs its.toList
def SqT (K : PySem.W.Frag) (H : Hp) (a : Addr) (xs : List V) : Prop :=
  Rd H a (.tup xs) ∨
    ∃ (o : Obj) (its : Array Value) (n : Nat), K.lookup a = some o ∧ o.cls = .type "tuple" ∧ o.data = .seq its n ∧ its.size ≤ sizeLine ∧ Vals xs its.toList
def absV : Value → Option V
  | .none => some .non
  | .bool b => some (.bl b)
  | .int i _ => some (.int i)
  | .str x _ => some (.str x)
  | .bytes b _ => some (.byt b)
  | .float b _ => some (.flt b)
  | .ref a => some (.ref a)
  | .type n => some (.ty n)
  | _ => none
theorem RelV.abs {x : V} {u : Value} (r : RelV x u) : absV u = some x := by
  cases x with
  | non => cases r; rfl
  | bl _ => cases r; rfl
  | int _ => obtain ⟨t, rfl⟩ := r; rfl
  | str _ => obtain ⟨t, rfl⟩ := r; rfl
  | byt _ => obtain ⟨t, rfl⟩ := r; rfl
  | flt _ => obtain ⟨t, rfl⟩ := r; rfl
  | ref _ => cases r; rfl
  | ty _ => cases r; rfl
theorem RelV.inj {x y : V} {u : Value} (r : RelV x u) (q : RelV y u) : x = y := Option.some.inj (r.abs.symm.trans q.abs)
theorem Vals.inj : ∀ {xs ys : List V} {us : List Value}, Vals xs us → Vals ys us → xs = ys
  | _, _, _, .nil, .nil => rfl
  | _, _, _, .cons r t, .cons r' t' => by rw [r.inj r', Vals.inj t t']
section
variable {X : Cx} {pins : List (Addr × Obj)} {σ : St} {H : Hp} {s : Shared} {a : Addr} {xs ys : List V}
theorem SqL.of {K : PySem.W.Frag} (h : H a = some (.lst xs)) : SqL K H a xs := .inl (.inl h)
theorem SqT.of {K : PySem.W.Frag} (h : H a = some (.tup xs)) : SqT K H a xs := .inl (.inl h)
theorem Inv.list (I : Inv X pins σ H s) (h : SqL X.K H a xs) : ∃ its : List Value, Vals xs its ∧ PlainL s.heap a its.toArray ∧ xs.length ≤ sizeLine := by
  rcases h with h | ⟨o, its, n, hk, hc, hd, hs, hz, r⟩
  · obtain ⟨z, its, n, r, e⟩ := h.ok I.hok
    exact ⟨its, r, ⟨_, n, e, rfl, rfl, rfl⟩, z⟩
  · refine ⟨its.toList, r, ⟨o, n, I.kIn a o hk, hc, hd, by simpa using hs⟩, ?_⟩
    have e := r.length
    simp only [Array.length_toList] at e
    omega
theorem Inv.tuple (I : Inv X pins σ H s) (h : SqT X.K H a xs) : ∃ its : List Value, Vals xs its ∧ IsTup s.heap a its.toArray ∧ xs.length ≤ sizeLine := by
  rcases h with h | ⟨o, its, n, hk, hc, hs, hz, r⟩
  · obtain ⟨z, its, r, p⟩ := h.ok I.hok
    exact ⟨its, r, p, z⟩
  · refine ⟨its.toList, r, ⟨o, I.kIn a o hk, hc, n, by simpa using hs⟩, ?_⟩
    have e := r.length
    simp only [Array.length_toList] at e
    omega
theorem Inv.list_inj (I : Inv X pins σ H s) (h : SqL X.K H a xs) (h' : SqL X.K H a ys) : xs = ys := by
  obtain ⟨its, r, ⟨o, n, e, _, _, d⟩, _⟩ := I.list h
  obtain ⟨its', r', ⟨o', n', e', _, _, d'⟩, _⟩ := I.list h'
  rw [e] at e'; cases e'
  rw [d] at d'
  injection d' with d1 _
  have : its = its' := by simpa using congrArg Array.toList d1
  subst this
  exact r.inj r'
end

abbrev Cx.wish (X : Cx) (E : Value → Shared → Prop) : Cx := { X with xe := E }
abbrev Cx.nox (X : Cx) : Cx := X.wish fun _ _ => False
theorem Cx.Ok.wish {X : Cx} (ok : X.Ok) (E : Value → Shared → Prop) : (X.wish E).Ok :=
  ⟨ok.mod, ok.kind, ok.glob, ok.blt, ok.above, ok.inj, ok.has, ok.cab, ok.hd, ok.frames, ok.stk, ok.exf, ok.bs, ok.bsz, ok.noex, ok.exfs, ok.funs, ok.frf⟩
theorem Cx.Ok.unwish {X : Cx} {E : Value → Shared → Prop} (ok : (X.wish E).Ok) : X.Ok :=
  ⟨ok.mod, ok.kind, ok.glob, ok.blt, ok.above, ok.inj, ok.has, ok.cab, ok.hd, ok.frames, ok.stk, ok.exf, ok.bs, ok.bsz, ok.noex, ok.exfs, ok.funs, ok.frf⟩
section
variable {X : Cx} {pins : List (Addr × Obj)} {σ : St} {H : Hp} {s : Shared} {E : Value → Shared → Prop}
theorem Inv.wish (I : Inv X pins σ H s) (E : Value → Shared → Prop) : Inv (X.wish E) pins σ H s := ⟨I.ok.wish E, I.os, I.bare, I.base, I.loc, I.cell, I.free, I.freeC, I.pin, I.hok, I.len⟩
theorem Inv.unwish (I : Inv (X.wish E) pins σ H s) : Inv X pins σ H s := ⟨I.ok.unwish, I.os, I.bare, I.base, I.loc, I.cell, I.free, I.freeC, I.pin, I.hok, I.len⟩
theorem SP.unwish {D : Ends} {f : Flow} {s' : Shared} (h : SP (X.wish E) pins D f s') : SP X pins D f s' := by
  cases f with
  | next => obtain ⟨σ', H', I, q⟩ := h; exact ⟨σ', H', I.unwish, q⟩
  | brk => obtain ⟨σ', H', I, q⟩ := h; exact ⟨σ', H', I.unwish, q⟩
  | cont => obtain ⟨σ', H', I, q⟩ := h; exact ⟨σ', H', I.unwish, q⟩
  | ret u => obtain ⟨v, σ', H', I, r, q⟩ := h; exact ⟨v, σ', H', I.unwish, r, q⟩
theorem PSs.nox {st : List Stmt} {t : TS} (h : PSs X.nox st t) : PSs X st t := fun pins s σ H D I hw =>
  wpAny_mono (h pins s σ H D (I.wish _) hw) (fun _ _ q => q.unwish) fun _ _ z => False.elim z
end

section
variable {X : Cx} {st : Stmt} {rest : List Stmt} {t u : TS} {e : Expr} {te : TE} {pos : Pos}
def tNext : TS := fun D σ H => D.nx σ H
def tSeq (t u : TS) : TS := fun D σ H => t { D with nx := u D } σ H
theorem pss_nil : PSs X [] tNext := fun _ _ σ H _ I h => wpAny_execs_nil ⟨σ, H, I, h⟩
theorem pss_cons (h1 : PS X st t) (h2 : PSs X rest u) : PSs X (st :: rest) (tSeq t u) := by
  intro pins s σ H D I h
  refine wpAny_execs_cons (thn (h1 pins s σ H { D with nx := u D } I h) fun f s1 q => ?_)
  cases f with
  | next =>
    obtain ⟨σ', H', I', q⟩ := q
    exact h2 pins s1 σ' H' D I' q
  | ret v => exact q
  | brk => exact q
  | cont => exact q
theorem pss_one (h1 : PS X st t) : PSs X [st] t := by
  intro pins s σ H D I h
  refine wpAny_execs_cons (thn (h1 pins s σ H D I h) fun f s1 q => ?_)
  cases f with
  | next => exact wpAny_execs_nil q
  | ret v => exact q
  | brk => exact q
  | cont => exact q
theorem Inv.quiet {pins : List (Addr × Obj)} {σ : St} {H : Hp} {s : Shared} (I : Inv X pins σ H s) : interactive X.env = false := by simp [interactive, I.ok.kind]
def tDrop (te : TE) : TS := fun D σ H => te σ H fun _ H1 => D.nx σ H1
theorem ps_expr (he : PE X e te) (hs : swapsWith e none pos.line X.env = pure false := by rfl) : PS X (.Expr e pos) (tDrop te) := by
  intro pins s σ H D I h
  exact wpAny_Expr_any (thn (he pins s σ H _ I h) fun v s1 ⟨x, H1, I1, r1, q1⟩ => ⟨σ, H1, I1, q1⟩) I.quiet hs
def tRet (te : TE) : TS := fun D σ H => te σ H D.rt
theorem ps_ret (he : PE X e te) : PS X (.Return (some e) pos) (tRet te) := by
  intro pins s σ H D I h
  exact wpAny_Return_some (thn (he pins s σ H _ I h) fun v s1 ⟨x, H1, I1, r1, q1⟩ => ⟨x, σ, H1, I1, r1, q1⟩)
def tIfS (c : TT) (t u : TS) : TS := fun D σ H => c σ H fun b H1 => if b = true then t D σ H1 else u D σ H1
theorem ps_if {c : Expr} {a b : List Stmt} {tc : TT} (hc : PT X c tc) (ha : PSs X a t) (hb : PSs X b u) : PS X (.If c a b pos) (tIfS tc t u) := by
  intro pins s σ H D I h
  refine wpAny_If (thn (hc pins s σ H _ I h) fun d s1 ⟨H1, I1, q1⟩ => ?_)
  cases d with
  | true => exact ha pins s1 σ H1 D I1 q1
  | false => exact hb pins s1 σ H1 D I1 q1
def tNever : TS := fun _ _ _ => False
theorem ps_never : PS X st tNever := fun _ _ _ _ _ _ h => h.elim
end

abbrev TG := V → St → Hp → (St → Hp → Prop) → Prop
abbrev TGs := List V → St → Hp → (St → Hp → Prop) → Prop
def PG (X : Cx) (target : Expr) (t : TG) : Prop :=
  ∀ (pins : List (Addr × Obj)) (s : Shared) (σ : St) (H : Hp) (v : V) (u : Value) (Q : St → Hp → Prop), Inv X pins σ H s → RelV v u → t v σ H Q →
    wpAny (model X.prog X.w) X.A (assign target X.env u) (fun _ s' => ∃ σ' H', Inv X pins σ' H' s' ∧ Q σ' H') X.xe s
def PGs (X : Cx) (ts : List Expr) (t : TGs) : Prop :=
  ∀ (pins : List (Addr × Obj)) (s : Shared) (σ : St) (H : Hp) (vs : List V) (us : List Value) (Q : St → Hp → Prop), Inv X pins σ H s → Vals vs us → t vs σ H Q →
    wpAny (model X.prog X.w) X.A (assignInOrder ((assignEach ts X.env).map (·.2)) us) (fun _ s' => ∃ σ' H', Inv X pins σ' H' s' ∧ Q σ' H') X.xe s
abbrev TSet := V → V → V → Hp → (Hp → Prop) → Prop
def PSet (X : Cx) (t : TSet) : Prop :=
  ∀ (pins : List (Addr × Obj)) (s : Shared) (σ : St) (H : Hp) (o i v : V) (ov iv u : Value) (Q : Hp → Prop), Inv X pins σ H s → RelV o ov → RelV i iv → RelV v u → t o i v H Q →
    wpAny (model X.prog X.w) X.A (setItem ov iv u) (fun _ s' => ∃ H', Inv X pins σ H' s' ∧ Q H') X.xe s
section
variable {X : Cx} {pos : Pos}
def gName (i : Nat) : TG := fun v σ H Q => Q (σ.set i (some v)) H
theorem pg_name {i : Nat} {x : Str} (hN : X.N.Nodup) (hi : X.N[i]? = some x) (hx : Loc X.env.scope x) (hf : X.fn x = true ∨ X.env.scope.names.lookup x = some .local := by first | exact .inl rfl | exact .inr rfl | assumption) : PG X (.Name x pos) (gName i) := by
  intro pins s σ H v u Q I r h
  exact wpAny_assign_Name (store_ok I hN hi hx r (fun s' I' => ⟨_, H, I', h⟩) hf)
def gNil : TGs := fun vs σ H Q => vs = [] ∧ Q σ H
def gCons (t : TG) (u : TGs) : TGs := fun vs σ H Q => ∃ v r, vs = v :: r ∧ t v σ H fun σ' H' => u r σ' H' Q
theorem pgs_nil : PGs X [] gNil := by
  intro pins s σ H vs us Q I r h
  obtain ⟨e, h⟩ := h
  subst e
  cases r
  exact assignInOrder_nil ⟨σ, H, I, h⟩
theorem pgs_cons {e : Expr} {es : List Expr} {t : TG} {u : TGs} (h1 : PG X e t) (h2 : PGs X es u)
    (hs : (assignEach (e :: es) X.env).map (·.2) = assign e X.env :: (assignEach es X.env).map (·.2) := by rfl) : PGs X (e :: es) (gCons t u) := by
  intro pins s σ H vs us Q I r h
  obtain ⟨v, vr, e1, h⟩ := h
  subst e1
  cases r with
  | cons r rr =>
    rw [hs]
    refine assignInOrder_cons (thn (h1 pins s σ H _ _ _ I r h) fun _ s1 ⟨σ1, H1, I1, q1⟩ => ?_)
    exact h2 pins s1 σ1 H1 _ _ Q I1 rr q1
def gTup (K : PySem.W.Frag) (n : Nat) (t : TGs) : TG := fun v σ H Q => ∃ a xs, v = .ref a ∧ SqT K H a xs ∧ xs.length = n ∧ t xs σ H Q
theorem pg_tup {es : List Expr} {k : Nat} {t : TGs} {n : Nat} (hc : X.calm = true) (h : PGs X es t)
    (hn : (assignEach es X.env).length = n := by rfl) (hst : (assignEach es X.env).findIdx? (·.1) = none := by rfl) : PG X (.Tuple es k pos) (gTup X.K n t) := by
  intro pins s σ H v u Q I r hw
  obtain ⟨a, xs, e1, hq, hl, hw⟩ := hw
  subst e1
  cases r
  obtain ⟨its, rv, ht, hz⟩ := I.tuple hq
  refine assign_Tuple_tuple (I.ok.hd hc) ht (by simp [hn, ← hl, rv.length]) hst fun h' hx => ?_
  have I1 : Inv X pins σ H { s with heap := h' } := I.kept (t' := s.toks) fun b o e => hx b o (Nat.ne_of_lt (Heap.lt_size e)) e
  exact h pins _ σ H xs _ Q I1 (by simpa using rv) hw
def gSub (to ti : TE) (t : TSet) : TG := fun v σ H Q => to σ H fun o H1 => ti σ H1 fun i H2 => t o i v H2 fun H3 => Q σ H3
theorem pg_sub {o i : Expr} {to ti : TE} {t : TSet} (ho : PE X o to) (hi : PE X i ti) (hs : PSet X t)
    (ha : ∀ v, assign (.Subscript o i pos) X.env v = (do
      let ov ← holding [v] (eval o X.env)
      let iv ← holding [v, ov] (eval i X.env)
      standAt pos
      holding [v, ov, iv] (setItem ov iv v)
      release [v, ov, iv] []) := by intro _; rfl) : PG X (.Subscript o i pos) (gSub to ti t) := by
  intro pins s σ H v u Q I r h
  rw [ha]
  refine wpAny_bind (wpAny_holding (thn (ho pins s σ H _ I h) fun ov s1 ⟨x, H1, I1, r1, q1⟩ => ?_))
  refine wpAny_bind (wpAny_holding (thn (hi pins s1 σ H1 _ I1 q1) fun iv s2 ⟨y, H2, I2, r2, q2⟩ => ?_))
  refine wpAny_bind (wpAny_standAt (wpAny_bind (wpAny_holding (thn (hs pins s2 σ H2 x y v ov iv u _ I2 r1 r2 r q2) fun _ s3 ⟨H3, I3, q3⟩ => ?_))))
  exact wpAny_release ⟨σ, H3, I3, q3⟩
def tAsg (te : TE) (g : TG) : TS := fun D σ H => te σ H fun x H1 => g x σ H1 D.nx
theorem ps_asg {tg e : Expr} {te : TE} {g : TG} (he : PE X e te) (hg : PG X tg g) (hs : swapsWithSole [tg] e pos.line X.env = pure false := by rfl) (hw : swappedStores [tg] e X.env = pure none := by rfl)
    (h1 : (assignEach [tg] X.env).map (·.2) = [assign tg X.env] := by rfl) : PS X (.Assign [tg] e pos) (tAsg te g) := by
  intro pins s σ H D I h
  refine wpAny_Assign_stores (thn (he pins s σ H _ I h) fun v s1 ⟨x, H1, I1, r1, q1⟩ => ?_) hs hw
  rw [h1]
  exact thn (hg pins s1 σ H1 x v _ I1 r1 q1) fun _ s2 q => q
theorem ps_set {i : Nat} {x : Str} {e : Expr} {te : TE} {pos' : Pos} (hN : X.N.Nodup) (hi : X.N[i]? = some x) (hx : Loc X.env.scope x) (he : PE X e te) (hs : swapsWith e (some (.Name x pos')) pos.line X.env = pure false := by rfl) (hf : X.fn x = true ∨ X.env.scope.names.lookup x = some .local := by first | exact .inl rfl | exact .inr rfl | assumption) :
    PS X (.Assign [.Name x pos'] e pos) (tAsg te (gName i)) := by
  intro pins s σ H D I h
  refine wpAny_Assign_Name (thn (he pins s σ H _ I h) fun v s1 ⟨y, H1, I1, r1, q1⟩ => ?_) hs
  exact store_ok I1 hN hi hx r1 (fun s2 I2 => ⟨_, H1, I2, q1⟩) hf
end

section
variable {X : Cx} {pos : Pos}
def tWhile (c : TT) (tb : TS) : TS := fun D σ H => ∃ W : Nat → St → Hp → Prop, (∃ m, W m σ H) ∧ ∀ m σ H, W m σ H →
  c σ H fun b H1 => if b = true then ∃ N : St → Hp → Prop, (∀ σ' H', N σ' H' → ∃ m', m' < m ∧ W m' σ' H') ∧ tb { D with nx := N, ct := N, bk := D.nx } σ H1 else D.nx σ H1
theorem ps_while {c : Expr} {body : List Stmt} {tc : TT} {tb : TS} (hp : PassesOwn (model X.prog X.w) X.A X.env X.xe) (hc : PT X c tc) (hb : PSs X body tb) : PS X (.While c body [] pos) (tWhile tc tb) := by
  intro pins s σ H D I h
  obtain ⟨W, ⟨m0, w0⟩, turn⟩ := h
  refine wpAny_While (codeAny_whileLoop (fun n s' => ∃ σ' H', Inv X pins σ' H' s' ∧ W n σ' H') ?_ m0 ⟨σ, H, I, w0⟩)
  rintro n s1 ⟨σ1, H1, I1, w1⟩
  refine wpAny_passesOwn hp (thn (hc pins s1 σ1 H1 _ I1 (turn n σ1 H1 w1)) fun b s2 ⟨H2, I2, q2⟩ => ?_)
  cases b with
  | true =>
    obtain ⟨N, hN, q2⟩ := q2
    rw [if_pos rfl]
    refine wpAny_passesOwn hp (thn (hb pins s2 σ1 H2 _ I2 q2) fun f s3 q3 => ?_)
    cases f with
    | next =>
      obtain ⟨σ3, H3, I3, n3⟩ := q3
      obtain ⟨m', hm, w3⟩ := hN σ3 H3 n3
      exact ⟨m', hm, σ3, H3, I3, w3⟩
    | cont =>
      obtain ⟨σ3, H3, I3, n3⟩ := q3
      obtain ⟨m', hm, w3⟩ := hN σ3 H3 n3
      exact ⟨m', hm, σ3, H3, I3, w3⟩
    | brk => exact q3
    | ret v => exact q3
  | false =>
    rw [if_neg Bool.false_ne_true]
    exact wpAny_execs_nil ⟨σ1, H2, I2, q2⟩
end

structure It where
  go : Nat → Hp → Prop
  yld : Nat → Hp → V → Hp → Prop
  stop : Nat → Hp → Prop
def FpOk (X : Cx) (pins : List (Addr × Obj)) (H : Hp) (b : Addr) : Prop :=
  H b = none ∧ b ≠ X.env.locals ∧ b ∉ X.fs ∧ (b ∈ X.ex ∨ X.s₀.heap.objs.size ≤ b) ∧ (∀ x c, X.env.cells.lookup x = some c → c ≠ b) ∧ ∀ p ∈ X.pn ++ pins, p.1 ≠ b
theorem Inv.fpOk {X : Cx} {pins : List (Addr × Obj)} {σ : St} {H H' : Hp} {s : Shared} {b : Addr} (I : Inv X pins σ H s) (hb : s.heap.objs.size ≤ b) (hn : H' b = none) : FpOk X pins H' b := by
  refine ⟨hn, Nat.ne_of_gt (Nat.lt_of_lt_of_le I.lt hb), I.nofs hb, .inr (Nat.le_trans I.sz hb), fun x c e z => ?_, fun p hp z => ?_⟩
  · obtain ⟨v, q⟩ := I.cell x c e
    exact absurd (Nat.lt_of_lt_of_le q.lt (by rw [z]; exact hb)) (Nat.lt_irrefl _)
  · exact absurd (Nat.lt_of_lt_of_le (Heap.lt_size (I.pin p hp).1) (by rw [z]; exact hb)) (Nat.lt_irrefl _)
structure Turn (P : Program) (w : World) (K : PySem.W.Frag) (tg : Expr) (J : It) (fp : List Addr) (it : Addr) (tn : Nat → Heap → Prop) : Prop where
  mem : it ∈ fp
  obj : ∀ i h, tn i h → ∀ b ∈ fp, ∃ o, h.get? b = some o ∧ ∀ v, o.data ≠ .cell v
  keep : ∀ i h h', tn i h → (∀ b ∈ fp, ∀ o, h.get? b = some o → h'.get? b = some o) → tn i h'
  item : ∀ (X : Cx), X.prog = P → X.w = w → X.K = K → X.calm = true → ∀ (i : Nat) (pins : List (Addr × Obj)) (s : Shared) (σ : St) (H : Hp) (E : Value → Shared → Prop), Inv X pins σ H s → (∀ b ∈ fp, FpOk X pins H b) → tn i s.heap → J.go i H →
    wpAny (model P w) X.A (pyNext (.ref it)) (fun r s1 => ∃ u, r = some u ∧
      wpAny (model P w) X.A (letOwnedTupleGo tg (.ref it) u) (fun _ s2 => ∃ x H', Inv X pins σ H' s2 ∧ RelV x u ∧ J.yld i H x H' ∧ tn (i + 1) s2.heap ∧ ∀ b ∈ fp, H' b = none) E s1) E s
  done : ∀ (X : Cx), X.prog = P → X.w = w → X.K = K → X.calm = true → ∀ (i : Nat) (pins : List (Addr × Obj)) (s : Shared) (σ : St) (H : Hp) (E : Value → Shared → Prop), Inv X pins σ H s → (∀ b ∈ fp, FpOk X pins H b) → tn i s.heap → J.stop i H →
    wpAny (model P w) X.A (pyNext (.ref it)) (fun r s1 => r = none ∧ Inv X pins σ H s1) E s
  self : ∀ (A : Around) (i : Nat) (s : Shared) (Q : Value → Shared → Prop) (E : Value → Shared → Prop), tn i s.heap → Q (.ref it) s → wpAny (model P w) A (pyIter (.ref it)) Q E s
abbrev TI := St → Hp → (It → Hp → Prop) → Prop
def PIE (X : Cx) (pins : List (Addr × Obj)) (σ : St) (tg : Expr) (R : It → Hp → Prop) (itv : Value) (s2 : Shared) : Prop :=
  ∃ (it : Addr) (fp : List Addr) (tn : Nat → Heap → Prop) (J : It) (H' : Hp), itv = .ref it ∧ Inv X pins σ H' s2 ∧ Turn X.prog X.w X.K tg J fp it tn ∧ tn 0 s2.heap ∧ (∀ b ∈ fp, FpOk X pins H' b) ∧ R J H'
def PI (X : Cx) (tg iter : Expr) (wi : TI) : Prop :=
  ∀ (pins : List (Addr × Obj)) (s : Shared) (σ : St) (H : Hp) (R : It → Hp → Prop), Inv X pins σ H s → wi σ H R →
    wpAny (model X.prog X.w) X.A (eval iter X.env) (fun v s1 => wpAny (model X.prog X.w) X.A (pyIter v) (PIE X pins σ tg R) X.xe s1) X.xe s

theorem go_of {M : Model} {A : Around} {E : Value → Shared → Prop} {s : Shared} {tg : Expr} {it : Addr} {u : Value} {o : Obj} {n : String} {vs : Array Value} {Q : Unit → Shared → Prop} (ho : s.heap.get? it = some o) (hc : o.cls = .type n) (hd : o.data = .fields vs)
    (hn : ["enumerate", "zip", "dict_itemiterator", "dict_reverseitemiterator", "odict_iterator", "itertools.zip_longest", "itertools.pairwise"].contains n = false) (hQ : Q () s) : wpAny M A (letOwnedTupleGo tg (.ref it) u) Q E s := by
  unfold letOwnedTupleGo
  cases tg <;> first
    | exact wpAny_pure hQ
    | (cases u <;> first
        | exact wpAny_pure hQ
        | (refine wpAny_bind (wpAny_load ho ?_)
           rw [hc, hd]
           show wpAny M A (if (["enumerate", "zip", "dict_itemiterator", "dict_reverseitemiterator", "odict_iterator", "itertools.zip_longest", "itertools.pairwise"].contains n && vs[0]? == some (rawInt _)) = true then _ else _) Q E s
           rw [if_neg (by intro h; rw [hn, Bool.false_and] at h; cases h)]
           exact wpAny_pure hQ))

def Itl (K : PySem.W.Frag) (a : Addr) : It :=
  ⟨fun i H => ∃ xs x, SqL K H a xs ∧ xs[i]? = some x, fun i H x H' => H' = H ∧ ∀ xs, SqL K H a xs → xs[i]? = some x, fun i H => ∃ xs, SqL K H a xs ∧ xs.length ≤ i⟩
def Itr (lo : Int) (n : Nat) : It := ⟨fun i _ => i < n, fun i H x H' => H' = H ∧ x = .int (lo + i), fun i _ => n ≤ i⟩
theorem turn_list {P : Program} {w : World} {K : PySem.W.Frag} {tg : Expr} (a it : Addr) : Turn P w K tg (Itl K a) [it] it (fun i h => h.IsListIter it a i) where
  mem := by simp
  obj := fun i h st b hb => by
    have e : b = it := by simpa using hb
    subst e
    obtain ⟨o, e, c, d⟩ := st
    exact ⟨o, e, fun v z => by rw [d] at z; cases z⟩
  keep := fun i h h' st k => st.at fun o e => k it (by simp) o e
  item := by
    intro X hP hw hK hc i pins s σ H E I hf st hg
    subst hP hw hK
    obtain ⟨xs, x, hq, hx⟩ := hg
    obtain ⟨its, rv, p, hz⟩ := I.list hq
    obtain ⟨u, hu, ru⟩ := rv.get hx
    obtain ⟨f0, f1, f2, f3, f4, f5⟩ := hf it (by simp)
    refine wpAny_pyNext_list_item st p.isList (x := u) (by simpa using hu) fun h' st' sb => ?_
    have I1 : Inv X pins σ H { s with heap := h' } := I.turned (t' := s.toks) (fun b o hb e => (sb.2 b hb).trans e) f0 f1 f3 f4 f5
    obtain ⟨o, e, c, d⟩ := id st'
    exact ⟨u, rfl, go_of (s := { s with heap := h' }) e c d (by decide) ⟨x, H, I1, ru, ⟨rfl, fun ys hy => by rw [I.list_inj hy hq]; exact hx⟩, st', fun b hb => (hf b hb).1⟩⟩
  done := by
    intro X hP hw hK hc i pins s σ H E I hf st hg
    subst hP hw hK
    obtain ⟨xs, hq, hx⟩ := hg
    obtain ⟨its, rv, p, hz⟩ := I.list hq
    obtain ⟨f0, f1, f2, f3, f4, f5⟩ := hf it (by simp)
    have hl := rv.length
    exact wpAny_pyNext_list_end (I.ok.hd hc) st p.isList (by simp; omega) fun h' eb => ⟨rfl, I.turned (t' := s.toks) (fun b o hb e => eb b o hb e) f0 f1 f3 f4 f5⟩
  self := fun _ _ _ _ _ st h => wpAny_pyIter_listiter st h
theorem turn_range {P : Program} {w : World} {K : PySem.W.Frag} {tg : Expr} (it : Addr) (lo : Int) (n : Nat) : Turn P w K tg (Itr lo n) [it] it (fun i h => IsRangeIter h it (lo + (i : Nat) * 1) ((n : Int) - (i : Nat)) 1) where
  mem := by simp
  obj := fun i h st b hb => by
    have e : b = it := by simpa using hb
    subst e
    exact ⟨_, st, fun v z => by
      have z' : Data.fields _ = Data.cell v := z
      cases z'⟩
  keep := fun i h h' st k => k it (by simp) _ st
  item := by
    intro X hP hw hK hc i pins s σ H E I hf st hg
    subst hP hw hK
    obtain ⟨f0, f1, f2, f3, f4, f5⟩ := hf it (by simp)
    have W := Walks.range (prog := X.prog) (w := X.w) (I.ok.hd hc) it lo 1 n
    refine W.item i s _ _ hg st fun v h' tk hv st' kk => ?_
    obtain ⟨t, rfl⟩ := hv
    have I1 : Inv X pins σ H { s with heap := h', toks := tk } := I.turned (fun b o hb e => kk b o (by simpa using hb) e) f0 f1 f3 f4 f5
    refine ⟨_, rfl, go_of (s := { s with heap := h', toks := tk }) (n := "range_iterator") st' rfl rfl (by decide) ⟨.int (lo + i), H, I1, ⟨t, ?_⟩, ⟨rfl, rfl⟩, st', fun b hb => (hf b hb).1⟩⟩
    rw [Int.mul_one]
  done := by
    intro X hP hw hK hc i pins s σ H E I hf st hg
    subst hP hw hK
    obtain ⟨f0, f1, f2, f3, f4, f5⟩ := hf it (by simp)
    exact wpAny_pyNext_range_end (I.ok.hd hc) st (by have : n ≤ i := hg; omega) fun h' eb => ⟨rfl, I.turned (t' := s.toks) (fun b o hb e => eb b o hb e) f0 f1 f3 f4 f5⟩
  self := fun _ _ _ _ _ st h => wpAny_pyIter_rangeiter st h
end L2

namespace L2
open PySem PySem.Spec PyProof.Rows
section
variable {X : Cx} {tg : Expr}
def iList (K : PySem.W.Frag) (tl : TE) : TI := fun σ H R => tl σ H fun x H1 => ∃ a, x = .ref a ∧ (∃ xs, SqL K H1 a xs) ∧ R (Itl K a) H1
theorem pi_list {l : Expr} {tl : TE} (hl : PE X l tl) : PI X tg l (iList X.K tl) := by
  intro pins s σ H R I h
  refine thn (hl pins s σ H _ I h) fun v s1 ⟨x, H1, I1, r1, q1⟩ => ?_
  obtain ⟨a, e, ⟨xs, hq⟩, q⟩ := q1
  subst e
  cases r1
  obtain ⟨its, rv, p, hz⟩ := I1.list hq
  refine wpAny_pyIter_list p.isList ?_
  refine ⟨s1.heap.objs.size, [s1.heap.objs.size], _, _, H1, rfl, I1.kept (t' := s1.toks) fun b o e => Heap.get?_push_of_some _ e, turn_list a _, ⟨_, Heap.get?_push_size _ rfl, rfl, rfl⟩, fun b hb => ?_, q⟩
  have e : b = s1.heap.objs.size := by simpa using hb
  subst e
  exact I1.fpOk (Nat.le_refl _) (I1.hok.fresh (Nat.le_refl _))
theorem range_it {pins : List (Addr × Obj)} {σ : St} {H : Hp} {s : Shared} {R : It → Hp → Prop} {E : Value → Shared → Prop} {lo hi : Int} {t u v : Tok} {tk : Nat} (I : Inv X pins σ H s) (h1 : -(2 ^ 62) ≤ lo) (h2 : lo < 2 ^ 62) (h3 : -(2 ^ 62) ≤ hi) (h4 : hi < 2 ^ 62)
    (q : R (Itr lo (hi - lo).toNat) H) : wpAny (model X.prog X.w) X.A (pyIter (.ref s.heap.objs.size)) (PIE X pins σ tg R) E { s with heap := s.heap.push { cls := .type "range", data := .fields #[.int lo t, .int hi u, .int 1 v] }, toks := tk } := by
  refine wpAny_pyIter_range (IsRange.new ..) (small_one h1 h2 h3 h4) ?_
  have I1 : Inv X pins σ H { s with heap := s.heap.push { cls := .type "range", data := .fields #[.int lo t, .int hi u, .int 1 v] }, toks := tk } := I.kept fun b o e => Heap.get?_push_of_some _ e
  refine ⟨(s.heap.push { cls := .type "range", data := .fields #[.int lo t, .int hi u, .int 1 v] }).objs.size, [(s.heap.push { cls := .type "range", data := .fields #[.int lo t, .int hi u, .int 1 v] }).objs.size], _, _, H, rfl,
    I1.kept (t' := tk) fun b o e => Heap.get?_push_of_some _ e, turn_range _ lo (hi - lo).toNat, ?_, fun b hb => ?_, q⟩
  · have e1 : lo + ((0 : Nat) : Int) * 1 = lo := by simp
    have e2 : (((hi - lo).toNat : Nat) : Int) - ((0 : Nat) : Int) = Builtin.Range.rangeSize lo hi 1 := by rw [rangeSize_one]; split <;> omega
    show IsRangeIter _ _ (lo + ((0 : Nat) : Int) * 1) ((((hi - lo).toNat : Nat) : Int) - ((0 : Nat) : Int)) 1
    rw [e1, e2]
    exact Heap.get?_push_size _ rfl
  · have e : b = (s.heap.push { cls := .type "range", data := .fields #[.int lo t, .int hi u, .int 1 v] }).objs.size := by simpa using hb
    subst e
    exact I1.fpOk (Nat.le_refl _) (I1.hok.fresh (Nat.le_refl _))
def iRng1 (ta : TA) : TI := fun σ H R => ta σ H fun vs H1 => ∃ j : Int, vs = [.int j] ∧ -(2 ^ 62) ≤ j ∧ j < 2 ^ 62 ∧ R (Itr 0 j.toNat) H1
theorem pi_range1 {a : Expr} {ta : TA} {p pos : Pos} (hg : Gl X "range") (hm : X.mg "range" = none) (ha : PA X [a] ta) (hs : starEach [a] X.env = [(false, eval a X.env)] := by rfl) : PI X tg (.Call (.Name "range" p) [a] [] pos) (iRng1 ta) := by
  intro pins s σ H R I h
  refine Call_ (ld_blt I hg hm boot_range (PyProof.Rows.callWith_type1 (thn (ha pos pins s σ H _ I h) fun us s1 ⟨vs, H1, I1, r1, q1⟩ => ?_) hs rfl))
  obtain ⟨j, e, q1, q2, q⟩ := q1
  subst e
  cases r1 with
  | cons r rr =>
    cases rr
    obtain ⟨t, rfl⟩ := r
    exact call_range_1 (range_it I1 (by omega) (by omega) q1 q2 (by simpa using q))
def tFor (wi : TI) (g : TG) (tb : TS) : TS := fun D σ H => wi σ H fun J H1 => ∃ W : Nat → Nat → St → Hp → Prop, (∃ m, W 0 m σ H1) ∧ ∀ i m σ H, W i m σ H →
  (J.stop i H ∧ D.nx σ H) ∨ (J.go i H ∧ ∃ N : St → Hp → Prop, (∀ σ' H', N σ' H' → ∃ m', m' < m ∧ W (i + 1) m' σ' H') ∧ ∀ x H', J.yld i H x H' → g x σ H' fun σ2 H2 => tb { D with nx := N, ct := N, bk := D.nx } σ2 H2)
def pinsAt (fp : List Addr) (h : Heap) : List (Addr × Obj) := fp.filterMap fun b => (h.get? b).map fun o => (b, o)
theorem mem_pinsAt {fp : List Addr} {h : Heap} {b : Addr} {o : Obj} (hb : b ∈ fp) (e : h.get? b = some o) : (b, o) ∈ pinsAt fp h := List.mem_filterMap.mpr ⟨b, hb, by rw [e]; rfl⟩
theorem of_pinsAt {fp : List Addr} {h : Heap} {p : Addr × Obj} (hp : p ∈ pinsAt fp h) : p.1 ∈ fp ∧ h.get? p.1 = some p.2 := by
  obtain ⟨b, hb, e⟩ := List.mem_filterMap.mp hp
  cases q : h.get? b with
  | none => rw [q] at e; cases e
  | some o =>
    rw [q] at e
    have e' : (b, o) = p := Option.some.inj e
    subst e'
    exact ⟨hb, q⟩
theorem Inv.pinned {pins : List (Addr × Obj)} {σ : St} {H : Hp} {s : Shared} {fp : List Addr} (I : Inv X pins σ H s) (hf : ∀ b ∈ fp, FpOk X pins H b) (ho : ∀ b ∈ fp, ∃ o, s.heap.get? b = some o ∧ ∀ v, o.data ≠ .cell v) : Inv X (pins ++ pinsAt fp s.heap) σ H s :=
  I.pins_of fun p hp => (List.mem_append.mp hp).elim (fun z => I.pin p (List.mem_append_right _ z)) fun z => by
    obtain ⟨hb, e⟩ := of_pinsAt z
    obtain ⟨f0, f1, f2, _⟩ := hf p.1 hb
    obtain ⟨o, e', d⟩ := ho p.1 hb
    rw [e] at e'; cases e'
    exact ⟨e, f0, f1, f2, d⟩
theorem Inv.unpinned {pins pl : List (Addr × Obj)} {σ : St} {H : Hp} {s : Shared} (I : Inv X (pins ++ pl) σ H s) : Inv X pins σ H s := I.pins_of fun p hp => I.pin p (List.mem_append_right _ (List.mem_append_left _ hp))
theorem ps_for {iter : Expr} {body : List Stmt} {wi : TI} {g : TG} {tb : TS} {pos : Pos} (hp : PassesOwn (model X.prog X.w) X.A X.env X.xe) (hc : X.calm = true) (hi : PI X tg iter wi) (hg : PG X tg g) (hb : PSs X body tb)
    (hs : ∀ x, foldedSetIterable iter X.env x = pure x := by intro _; rfl) : PS X (.For tg iter body [] pos) (tFor wi g tb) := by
  intro pins s σ H D I h
  refine wpAny_For (thn (hi pins s σ H _ I h) fun v s1 h1 => thn h1 fun itv s2 h2 => ?_) hs
  obtain ⟨it, fp, tn, J, H2, e, I2, T, st2, f2, W, ⟨m0, w0⟩, turn⟩ := h2
  subst e
  -- what stays true of the iterator's objects through the loop
  have stat : ∀ {H' : Hp}, (∀ b ∈ fp, H' b = none) → ∀ b ∈ fp, FpOk X pins H' b := fun hn b hb => ⟨hn b hb, (f2 b hb).2⟩
  refine codeAny_forLoop_any (fun n s' => ∃ i σ' H', Inv X pins σ' H' s' ∧ tn i s'.heap ∧ (∀ b ∈ fp, H' b = none) ∧ W i n σ' H') ?_ m0 ⟨0, σ, H2, I2, st2, fun b hb => (f2 b hb).1, w0⟩
  rintro n s3 ⟨i, σ3, H3, I3, st3, fr3, w3⟩
  rcases turn i n σ3 H3 w3 with ⟨stop, qn⟩ | ⟨go, N, hN, step⟩
  · refine wpAny_passesOwn hp (thn (T.done X rfl rfl rfl hc i pins s3 σ3 H3 X.xe I3 (stat fr3) st3 stop) fun r s4 ⟨hr, I4⟩ => ?_)
    subst hr
    exact wpAny_execs_nil ⟨σ3, H3, I4, qn⟩
  · refine wpAny_passesOwn hp (thn (T.item X rfl rfl rfl hc i pins s3 σ3 H3 X.xe I3 (stat fr3) st3 go) fun r s4 ⟨u, hr, h4⟩ => ?_)
    subst hr
    refine wpAny_passesOwn hp (thn h4 fun _ s5 ⟨x, H5, I5, r5, y5, st5, fr5⟩ => ?_)
    have I5' := I5.pinned (stat fr5) (T.obj _ _ st5)
    refine wpAny_passesOwn hp (thn (hg _ s5 σ3 H5 x u _ I5' r5 (step x H5 y5)) fun _ s6 ⟨σ6, H6, I6, q6⟩ => ?_)
    refine wpAny_passesOwn hp (thn (hb _ s6 σ6 H6 _ I6 q6) fun f s7 q7 => ?_)
    have again : ∀ {σ7 : St} {H7 : Hp}, Inv X (pins ++ pinsAt fp s5.heap) σ7 H7 s7 → N σ7 H7 → ∃ m, m < n ∧ ∃ i σ' H', Inv X pins σ' H' s7 ∧ tn i s7.heap ∧ (∀ b ∈ fp, H' b = none) ∧ W i m σ' H' := fun {σ7 H7} I7 n7 => by
      obtain ⟨m', hm, w7⟩ := hN σ7 H7 n7
      refine ⟨m', hm, i + 1, σ7, H7, I7.unpinned, T.keep _ _ _ st5 fun b hb o e => (I7.pin (b, o) (List.mem_append_right _ (List.mem_append_right _ (mem_pinsAt hb e)))).1, fun b hb => ?_, w7⟩
      obtain ⟨o, e, d⟩ := T.obj _ _ st5 b hb
      exact (I7.pin (b, o) (List.mem_append_right _ (List.mem_append_right _ (mem_pinsAt hb e)))).2.1
    cases f with
    | next => obtain ⟨σ7, H7, I7, n7⟩ := q7; exact again I7 n7
    | cont => obtain ⟨σ7, H7, I7, n7⟩ := q7; exact again I7 n7
    | brk => obtain ⟨σ7, H7, I7, q7⟩ := q7; exact ⟨σ7, H7, I7.unpinned, q7⟩
    | ret v => obtain ⟨x7, σ7, H7, I7, r7, q7⟩ := q7; exact ⟨x7, σ7, H7, I7.unpinned, r7, q7⟩
end

theorem for_list {K : PySem.W.Frag} {a : Addr} {xs : List V} {g : TG} {tb : TS} {D : Ends} {σ : St} {H : Hp} (Pv : Nat → St → Hp → Prop) (h0 : Pv 0 σ H) (hl : ∀ i σ H, i ≤ xs.length → Pv i σ H → SqL K H a xs)
    (hs : ∀ i x σ H, xs[i]? = some x → Pv i σ H → g x σ H fun σ2 H2 => tb { D with nx := Pv (i + 1), ct := Pv (i + 1), bk := D.nx } σ2 H2) (hd : ∀ σ H, Pv xs.length σ H → D.nx σ H) :
    ∃ W : Nat → Nat → St → Hp → Prop, (∃ m, W 0 m σ H) ∧ ∀ i m σ H, W i m σ H →
      ((Itl K a).stop i H ∧ D.nx σ H) ∨ ((Itl K a).go i H ∧ ∃ N : St → Hp → Prop, (∀ σ' H', N σ' H' → ∃ m', m' < m ∧ W (i + 1) m' σ' H') ∧ ∀ x H', (Itl K a).yld i H x H' → g x σ H' fun σ2 H2 => tb { D with nx := N, ct := N, bk := D.nx } σ2 H2) := by
  refine ⟨fun i m σ H => m = xs.length - i ∧ i ≤ xs.length ∧ Pv i σ H, ⟨xs.length, by simp, Nat.zero_le _, h0⟩, ?_⟩
  rintro i m σ H ⟨rfl, hi, p⟩
  have q := hl i σ H hi p
  by_cases hlt : i < xs.length
  · refine .inr ⟨⟨xs, xs[i], q, by simp [hlt]⟩, Pv (i + 1), fun σ' H' p' => ⟨xs.length - (i + 1), by omega, rfl, hlt, p'⟩, fun x H' y => ?_⟩
    obtain ⟨e, y⟩ := y
    subst e
    exact hs i x σ _ (y xs q) p
  · have e : i = xs.length := by omega
    subst e
    exact .inl ⟨⟨xs, q, Nat.le_refl _⟩, hd σ H p⟩
theorem for_range {lo : Int} {n : Nat} {g : TG} {tb : TS} {D : Ends} {σ : St} {H : Hp} (Pv : Nat → St → Hp → Prop) (h0 : Pv 0 σ H)
    (hs : ∀ i σ H, i < n → Pv i σ H → g (.int (lo + i)) σ H fun σ2 H2 => tb { D with nx := Pv (i + 1), ct := Pv (i + 1), bk := D.nx } σ2 H2) (hd : ∀ σ H, Pv n σ H → D.nx σ H) :
    ∃ W : Nat → Nat → St → Hp → Prop, (∃ m, W 0 m σ H) ∧ ∀ i m σ H, W i m σ H →
      ((Itr lo n).stop i H ∧ D.nx σ H) ∨ ((Itr lo n).go i H ∧ ∃ N : St → Hp → Prop, (∀ σ' H', N σ' H' → ∃ m', m' < m ∧ W (i + 1) m' σ' H') ∧ ∀ x H', (Itr lo n).yld i H x H' → g x σ H' fun σ2 H2 => tb { D with nx := N, ct := N, bk := D.nx } σ2 H2) := by
  refine ⟨fun i m σ H => m = n - i ∧ i ≤ n ∧ Pv i σ H, ⟨n, by simp, Nat.zero_le _, h0⟩, ?_⟩
  rintro i m σ H ⟨rfl, hi, p⟩
  by_cases hlt : i < n
  · refine .inr ⟨hlt, Pv (i + 1), fun σ' H' p' => ⟨n - (i + 1), by omega, rfl, hlt, p'⟩, fun x H' y => ?_⟩
    obtain ⟨e, y⟩ := y
    subst e y
    exact hs i σ _ hlt p
  · have e : i = n := by omega
    subst e
    exact .inl ⟨Nat.le_refl _, hd σ H p⟩
end L2

namespace L2
open PySem PySem.Spec PyProof.Rows

abbrev R2 := V → V → Hp → VK → Prop
def OpR (X : Cx) (f : Value → Value → Sem Value) (r : R2) : Prop :=
  ∀ (pins : List (Addr × Obj)) (s : Shared) (σ : St) (H : Hp) (x y : V) (v u : Value) (Q : VK), Inv X pins σ H s → RelV x v → RelV y u → r x y H Q →
    wpAny (model X.prog X.w) X.A (f v u) (EP X pins σ Q) X.xe s
def UnR (X : Cx) (f : Value → Sem Value) (r : V → Hp → VK → Prop) : Prop :=
  ∀ (pins : List (Addr × Obj)) (s : Shared) (σ : St) (H : Hp) (x : V) (v : Value) (Q : VK), Inv X pins σ H s → RelV x v → r x H Q →
    wpAny (model X.prog X.w) X.A (f v) (EP X pins σ Q) X.xe s
def CallR (X : Cx) (f : Value) (r : List V → Hp → VK → Prop) : Prop :=
  ∀ (pins : List (Addr × Obj)) (s : Shared) (σ : St) (H : Hp) (xs : List V) (us : List Value) (Q : VK), Inv X pins σ H s → Vals xs us → r xs H Q →
    wpAny (model X.prog X.w) X.A (call f us) (EP X pins σ Q) X.xe s
def tOp (r : R2) (ta tb : TE) : TE := fun σ H Q => ta σ H fun x H1 => tb σ H1 fun y H2 => r x y H2 Q
def tUn (r : V → Hp → VK → Prop) (ta : TE) : TE := fun σ H Q => ta σ H fun x H1 => r x H1 Q
def rI (C : Int → Int → Prop) (g : Int → Int → V) : R2 := fun x y H Q => ∃ i j, x = .int i ∧ y = .int j ∧ C i j ∧ Q (g i j) H
def rI0 (g : Int → Int → V) : R2 := fun x y H Q => ∃ i j, x = .int i ∧ y = .int j ∧ Q (g i j) H
def rU (g : Int → V) : V → Hp → VK → Prop := fun x H Q => ∃ i, x = .int i ∧ Q (g i) H

section
variable {X : Cx} {a b c : Expr} {ta tb tc : TE} {pos : Pos}

theorem binT (ha : PE X a ta) (hb : PE X b tb) {pins : List (Addr × Obj)} {s : Shared} {σ : St} {H : Hp} {R : V → V → Hp → Prop} (I : Inv X pins σ H s)
    (h : ta σ H fun x H1 => tb σ H1 fun y H2 => R x y H2) {Q : Value → Shared → Prop} {f : Value → Value → Sem Value}
    (hf : ∀ v u s2 x y H2, Inv X pins σ H2 s2 → RelV x v → RelV y u → R x y H2 → wpAny (model X.prog X.w) X.A (f v u) Q X.xe s2) :
    wpAny (model X.prog X.w) X.A (eval a X.env) (fun v s₁ => wpAny (model X.prog X.w) X.A (eval b X.env) (fun u s₂ => wpAny (model X.prog X.w) X.A (f v u) Q X.xe s₂) X.xe s₁) X.xe s := by
  refine thn (ha pins s σ H _ I h) fun v s1 ⟨x, H1, I1, r1, q1⟩ => ?_
  refine thn (hb pins s1 σ H1 _ I1 q1) fun u s2 ⟨y, H2, I2, r2, q2⟩ => ?_
  exact hf v u s2 x y H2 I2 r1 r2 q2

theorem pe_op {op : Operator} {r : R2} (ho : OpR X (binaryOp op) r) (ha : PE X a ta) (hb : PE X b tb) : PE X (.BinOp a op b pos) (tOp r ta tb) := by
  intro pins s σ H Q I h
  exact wpAny_BinOp (binT ha hb I h fun v u s2 x y H2 I2 rx ry q => ho pins s2 σ H2 x y v u Q I2 rx ry q)
theorem pe_un {op : UnaryOp} {r : V → Hp → VK → Prop} (ho : UnR X (unaryOp op) r) (ha : PE X a ta) : PE X (.UnaryOp op a pos) (tUn r ta) := by
  intro pins s σ H Q I h
  exact UnaryOp_ (thn (ha pins s σ H _ I h) fun v s1 ⟨x, H1, I1, r1, q1⟩ => ho pins s1 σ H1 x v Q I1 r1 q1)
theorem opI {f : Value → Value → Sem Value} {C : Int → Int → Prop} {g : Int → Int → Int}
    (rule : ∀ (i j : Int) (t u : Tok) (s : Shared) (Q : Value → Shared → Prop) (E : Value → Shared → Prop), C i j → Q (.int (g i j) s.toks) { s with toks := s.toks + 1 } → wpAny (model X.prog X.w) X.A (f (.int i t) (.int j u)) Q E s) :
    OpR X f (rI C fun i j => .int (g i j)) := by
  intro pins s σ H x y v u Q I rx ry h
  obtain ⟨i, j, rfl, rfl, hc, q⟩ := h
  obtain ⟨t, rfl⟩ := rx
  obtain ⟨t', rfl⟩ := ry
  exact rule i j t t' s _ _ hc ⟨.int (g i j), H, I.tok _, ⟨_, rfl⟩, q⟩
theorem opI0 {f : Value → Value → Sem Value} {g : Int → Int → Int}
    (rule : ∀ (i j : Int) (t u : Tok) (s : Shared) (Q : Value → Shared → Prop) (E : Value → Shared → Prop), Q (.int (g i j) s.toks) { s with toks := s.toks + 1 } → wpAny (model X.prog X.w) X.A (f (.int i t) (.int j u)) Q E s) :
    OpR X f (rI0 fun i j => .int (g i j)) := by
  intro pins s σ H x y v u Q I rx ry h
  obtain ⟨i, j, rfl, rfl, q⟩ := h
  obtain ⟨t, rfl⟩ := rx
  obtain ⟨t', rfl⟩ := ry
  exact rule i j t t' s _ _ ⟨.int (g i j), H, I.tok _, ⟨_, rfl⟩, q⟩
theorem opB0 {f : Value → Value → Sem Value} {g : Int → Int → Bool}
    (rule : ∀ (i j : Int) (t u : Tok) (s : Shared) (Q : Value → Shared → Prop) (E : Value → Shared → Prop), Q (.bool (g i j)) s → wpAny (model X.prog X.w) X.A (f (.int i t) (.int j u)) Q E s) :
    OpR X f (rI0 fun i j => .bl (g i j)) := by
  intro pins s σ H x y v u Q I rx ry h
  obtain ⟨i, j, rfl, rfl, q⟩ := h
  obtain ⟨t, rfl⟩ := rx
  obtain ⟨t', rfl⟩ := ry
  exact rule i j t t' s _ _ ⟨.bl (g i j), H, I, rfl, q⟩

def CDiv (i j : Int) : Prop := 0 < j ∧ j < 1073741824
def CMul (i j : Int) : Prop := (-(2 ^ 64) < i ∧ i < 2 ^ 64) ∨ (-(2 ^ 64) < j ∧ j < 2 ^ 64)
theorem CMul.ok {i j : Int} (h : CMul i j) : IntMulOk i j := by
  rcases h with ⟨h1, h2⟩ | ⟨h1, h2⟩
  · exact .of_left (intBits_le_64 h1 h2)
  · exact .of_right (intBits_le_64 h1 h2)
theorem op_add : OpR X (binaryOp .Add) (rI0 fun i j => .int (i + j)) := opI0 fun _ _ _ _ _ _ _ q => add_int q
theorem op_sub : OpR X (binaryOp .Sub) (rI0 fun i j => .int (i - j)) := opI0 fun _ _ _ _ _ _ _ q => sub_int q
theorem op_mul : OpR X (binaryOp .Mult) (rI CMul fun i j => .int (i * j)) := opI fun _ _ _ _ _ _ _ hc q => mul_int q hc.ok
theorem op_fdiv : OpR X (binaryOp .FloorDiv) (rI CDiv fun i j => .int (i / j)) := opI fun i j _ _ _ _ _ hc q => by
  have h1 : (0 : Int) < j := hc.1
  have h2 : j < 1073741824 := hc.2
  exact floordiv_int (by omega) (by rw [Int.fdiv_eq_ediv_of_nonneg i (by omega)]; exact q) (.inl (PyProof.noPylong_small (by omega)))
theorem op_mod : OpR X (binaryOp .Mod) (rI (fun _ j => 0 < j) fun i j => .int (i % j)) := opI fun i j _ _ _ _ _ hc q => by
  have h1 : (0 : Int) < j := hc
  exact mod_int' (by omega) (by rw [Int.fmod_eq_emod_of_nonneg i (by omega)]; exact q)
theorem unI {f : Value → Sem Value} {g : Int → Int}
    (rule : ∀ (i : Int) (t : Tok) (s : Shared) (Q : Value → Shared → Prop) (E : Value → Shared → Prop), Q (.int (g i) s.toks) { s with toks := s.toks + 1 } → wpAny (model X.prog X.w) X.A (f (.int i t)) Q E s) :
    UnR X f (rU fun i => .int (g i)) := by
  intro pins s σ H x v Q I rx h
  obtain ⟨i, rfl, q⟩ := h
  obtain ⟨t, rfl⟩ := rx
  exact rule i t s _ _ ⟨.int (g i), H, I.tok _, ⟨_, rfl⟩, q⟩
theorem un_neg : UnR X (unaryOp .USub) (rU fun i => .int (-i)) := unI fun _ _ _ _ _ q => neg_int q
end

def scal : V → V → Bool
  | .non, .non => true | .non, .int _ => true | .int _, .non => true | .non, .bl _ => true | .bl _, .non => true | .non, .str _ => true | .str _, .non => true
  | .int _, .int _ => true | .bl _, .bl _ => true | .str _, .str _ => true | .byt _, .byt _ => true
  | .int _, .str _ => true | .str _, .int _ => true | .bl _, .str _ => true | .str _, .bl _ => true
  | _, _ => false
def rEq : R2 := fun x y H Q => scal x y = true ∧ Q (.bl (decide (x = y))) H
def rNe : R2 := fun x y H Q => scal x y = true ∧ Q (.bl (!decide (x = y))) H

theorem dec_int {i j : Int} : decide (V.int i = V.int j) = (i == j) := by
  rw [Bool.eq_iff_iff]
  simp
theorem dec_bl {i j : Bool} : decide (V.bl i = V.bl j) = (i == j) := by
  rw [Bool.eq_iff_iff]
  simp
theorem dec_str {i j : Str} : decide (V.str i = V.str j) = (i == j) := by
  rw [Bool.eq_iff_iff]
  simp
theorem dec_byt {i j : Array UInt8} : decide (V.byt i = V.byt j) = (i.toList == j.toList) := by
  rw [Bool.eq_iff_iff]
  cases i
  cases j
  simp

section
variable {X : Cx} {a b c : Expr} {ta tb tc : TE} {pos : Pos}
theorem fin_bl {pins : List (Addr × Obj)} {σ : St} {H : Hp} {s : Shared} {Q : VK} {k k' : Bool} (I : Inv X pins σ H s) (q : Q (.bl k) H) (e : k = k') : EP X pins σ Q (.bool k') s := by
  subst e
  exact ⟨.bl k, H, I, rfl, q⟩
theorem op_eq : OpR X (compareOp .Eq) rEq := by
  intro pins s σ H x y v u Q I rx ry h
  obtain ⟨hs, q⟩ := h
  cases x with
  | non =>
    cases rx
    cases y with
    | non => cases ry; exact PySem.EqNone.eq_none_none (fin_bl I q (by simp))
    | bl j => cases ry; exact PySem.EqNone.eq_none_bool (fin_bl I q (by simp))
    | int j => obtain ⟨t', rfl⟩ := ry; exact PySem.EqNone.eq_none_int (fin_bl I q (by simp))
    | str j => obtain ⟨t', rfl⟩ := ry; exact PySem.EqNone.eq_none_str (fin_bl I q (by simp))
    | _ => exact absurd (show false = true from hs) Bool.false_ne_true
  | bl i =>
    cases rx
    cases y with
    | non => cases ry; exact PySem.EqNone.eq_bool_none (fin_bl I q (by simp))
    | bl j => cases ry; exact eq_bool (fin_bl I q dec_bl)
    | str j => obtain ⟨t', rfl⟩ := ry; exact PySem.EqMixed.eq_bool_str (fin_bl I q (by simp))
    | _ => exact absurd (show false = true from hs) Bool.false_ne_true
  | int i =>
    obtain ⟨t, rfl⟩ := rx
    cases y with
    | non => cases ry; exact PySem.EqNone.eq_int_none (fin_bl I q (by simp))
    | int j => obtain ⟨t', rfl⟩ := ry; exact eq_int (fin_bl I q dec_int)
    | str j => obtain ⟨t', rfl⟩ := ry; exact PySem.EqMixed.eq_int_str (fin_bl I q (by simp))
    | _ => exact absurd (show false = true from hs) Bool.false_ne_true
  | str i =>
    obtain ⟨t, rfl⟩ := rx
    cases y with
    | non => cases ry; exact PySem.EqNone.eq_str_none (fin_bl I q (by simp))
    | bl j => cases ry; exact PySem.EqMixed.eq_str_bool (fin_bl I q (by simp))
    | int j => obtain ⟨t', rfl⟩ := ry; exact PySem.EqMixed.eq_str_int (fin_bl I q (by simp))
    | str j => obtain ⟨t', rfl⟩ := ry; exact eq_str (fin_bl I q dec_str)
    | _ => exact absurd (show false = true from hs) Bool.false_ne_true
  | byt i =>
    obtain ⟨t, rfl⟩ := rx
    cases y with
    | byt j => obtain ⟨t', rfl⟩ := ry; exact PySem.W.eq_bytes (fin_bl I q dec_byt)
    | _ => exact absurd (show false = true from hs) Bool.false_ne_true
  | _ => cases y <;> exact absurd (show false = true from hs) Bool.false_ne_true
theorem op_ne : OpR X (compareOp .NotEq) rNe := by
  intro pins s σ H x y v u Q I rx ry h
  obtain ⟨hs, q⟩ := h
  cases x with
  | non =>
    cases rx
    cases y with
    | non => cases ry; exact PySem.EqNone.ne_none_none (fin_bl I q (by simp))
    | bl j => cases ry; exact PySem.EqNone.ne_none_bool (fin_bl I q (by simp))
    | int j => obtain ⟨t', rfl⟩ := ry; exact PySem.EqNone.ne_none_int (fin_bl I q (by simp))
    | str j => obtain ⟨t', rfl⟩ := ry; exact PySem.EqNone.ne_none_str (fin_bl I q (by simp))
    | _ => exact absurd (show false = true from hs) Bool.false_ne_true
  | bl i =>
    cases rx
    cases y with
    | non => cases ry; exact PySem.EqNone.ne_bool_none (fin_bl I q (by simp))
    | bl j => cases ry; exact ne_bool (fin_bl I q (congrArg not dec_bl))
    | str j => obtain ⟨t', rfl⟩ := ry; exact PySem.EqMixed.ne_bool_str (fin_bl I q (by simp))
    | _ => exact absurd (show false = true from hs) Bool.false_ne_true
  | int i =>
    obtain ⟨t, rfl⟩ := rx
    cases y with
    | non => cases ry; exact PySem.EqNone.ne_int_none (fin_bl I q (by simp))
    | int j => obtain ⟨t', rfl⟩ := ry; exact ne_int (fin_bl I q (congrArg not dec_int))
    | str j => obtain ⟨t', rfl⟩ := ry; exact PySem.EqMixed.ne_int_str (fin_bl I q (by simp))
    | _ => exact absurd (show false = true from hs) Bool.false_ne_true
  | str i =>
    obtain ⟨t, rfl⟩ := rx
    cases y with
    | non => cases ry; exact PySem.EqNone.ne_str_none (fin_bl I q (by simp))
    | bl j => cases ry; exact PySem.EqMixed.ne_str_bool (fin_bl I q (by simp))
    | int j => obtain ⟨t', rfl⟩ := ry; exact PySem.EqMixed.ne_str_int (fin_bl I q (by simp))
    | str j => obtain ⟨t', rfl⟩ := ry; exact ne_str (fin_bl I q (congrArg not dec_str))
    | _ => exact absurd (show false = true from hs) Bool.false_ne_true
  | byt i =>
    obtain ⟨t, rfl⟩ := rx
    cases y with
    | byt j => obtain ⟨t', rfl⟩ := ry; exact PySem.W.ne_bytes (fin_bl I q (congrArg not dec_byt))
    | _ => exact absurd (show false = true from hs) Bool.false_ne_true
  | _ => cases y <;> exact absurd (show false = true from hs) Bool.false_ne_true

theorem op_lt : OpR X (compareOp .Lt) (rI0 fun i j => .bl (decide (i < j))) := opB0 fun _ _ _ _ _ _ _ q => lt_int q
theorem op_le : OpR X (compareOp .LtE) (rI0 fun i j => .bl (decide (i ≤ j))) := opB0 fun _ _ _ _ _ _ _ q => le_int q
theorem op_gt : OpR X (compareOp .Gt) (rI0 fun i j => .bl (decide (j < i))) := opB0 fun _ _ _ _ _ _ _ q => gt_int q
theorem nomark (b : Expr) {op : CmpOp} (h : op ≠ .In := by decide) (h2 : op ≠ .NotIn := by decide) : behindInMarks op b = false := by
  have e1 : (op == CmpOp.In) = false := by cases op <;> first | rfl | exact absurd rfl h
  have e2 : (op == CmpOp.NotIn) = false := by cases op <;> first | rfl | exact absurd rfl h2
  cases b <;> simp [behindInMarks, e1, e2]
theorem pe_cmpR {op : CmpOp} {r : R2} (ho : OpR X (compareOp op) r) (ha : PE X a ta) (hb : PE X b tb) (hm : behindInMarks op b = false) : PE X (.Compare a [op] [b] pos) (tOp r ta tb) := by
  intro pins s σ H Q I h
  exact wpAny_Compare1 (binT ha hb I h fun v u s2 x y H2 I2 rx ry q => ho pins s2 σ H2 x y v u Q I2 rx ry q) hm
def tTest (t : TE) : TT := fun σ H Q => t σ H fun x H' => ∃ k, x = .bl k ∧ Q k H'
theorem pt_cmpR {op : CmpOp} {r : R2} (ho : OpR X (compareOp op) r) (ha : PE X a ta) (hb : PE X b tb) (hm : behindInMarks op b = false) : PT X (.Compare a [op] [b] pos) (tTest (tOp r ta tb)) := by
  intro pins s σ H Q I h
  refine wpAny_isTrue_Compare1 (thn (ha pins s σ H _ I h) fun v s1 ⟨x, H1, I1, r1, q1⟩ => thn (hb pins s1 σ H1 _ I1 q1) fun u s2 ⟨y, H2, I2, r2, q2⟩ =>
    thn (ho pins s2 σ H2 x y v u _ I2 r1 r2 q2) fun c s3 ⟨z, H3, I3, r3, k, e, q3⟩ => ?_) hm
  subst e
  cases r3
  exact wpAny_truthy_bool ⟨H3, I3, q3⟩
theorem line63 : (sizeLine : Nat) < 2 ^ 63 := by rw [sizeLine_eq]; decide
theorem vals1 {x : V} {us : List Value} (r : Vals [x] us) : ∃ u, us = [u] ∧ RelV x u := by
  cases r with
  | cons r1 r2 => cases r2; exact ⟨_, rfl, r1⟩
theorem vals2 {x y : V} {us : List Value} (r : Vals [x, y] us) : ∃ u w', us = [u, w'] ∧ RelV x u ∧ RelV y w' := by
  cases r with
  | cons r1 r2 =>
    cases r2 with
    | cons r3 r4 => cases r4; exact ⟨_, _, rfl, r1, r3⟩
theorem call_max2 (hc : X.calm = true) : CallR X (.builtin "max") (fun xs H Q => ∃ i j, xs = [.int i, .int j] ∧ Q (.int (if j > i then j else i)) H) := by
  intro pins s σ H xs us Q I r h
  obtain ⟨i, j, rfl, q⟩ := h
  obtain ⟨u, w', rfl, ⟨t, rfl⟩, ⟨t', rfl⟩⟩ := vals2 r
  refine max_two_ints (I.ok.hd hc) fun h' tk k => ⟨_, H, I.kept k, ?_, q⟩
  by_cases hj : j > i
  · rw [if_pos hj, if_pos hj]; exact ⟨_, rfl⟩
  · rw [if_neg hj, if_neg hj]; exact ⟨_, rfl⟩
theorem call_min2 (hc : X.calm = true) : CallR X (.builtin "min") (fun xs H Q => ∃ i j, xs = [.int i, .int j] ∧ Q (.int (if j < i then j else i)) H) := by
  intro pins s σ H xs us Q I r h
  obtain ⟨i, j, rfl, q⟩ := h
  obtain ⟨u, w', rfl, ⟨t, rfl⟩, ⟨t', rfl⟩⟩ := vals2 r
  refine min_two_ints (I.ok.hd hc) fun h' tk k => ⟨_, H, I.kept k, ?_, q⟩
  by_cases hj : j < i
  · rw [if_pos hj, if_pos hj]; exact ⟨_, rfl⟩
  · rw [if_neg hj, if_neg hj]; exact ⟨_, rfl⟩
end
end L2

namespace L2
open PySem PySem.Spec PyProof.Rows

structure ObjM (h : Heap) (x dx C : Addr) (mA : Str → Option Value) : Prop where
  obj : h.get? x = some (PySem.W.instObj C dx)
  ns : h.Ns1 dx mA
  ne : dx ≠ x

theorem lookIn_ns {h : Heap} {dx : Addr} {mA : Str → Option Value} (n : h.Ns1 dx mA) : ∃ od, h.get? dx = some od ∧ ∀ name, PySem.W.lookIn name od = some (mA name) := by
  obtain ⟨o, es, ep, ho, hd, hk, _, hm⟩ := n
  refine ⟨o, ho, fun name => ?_⟩
  have e := hm name
  unfold nsFind findBy at e
  rw [← Array.find?_toList] at e
  unfold PySem.W.lookIn
  rw [hd]
  dsimp only
  split
  · rename_i y q
    rw [q] at e
    exact congrArg some e
  · rename_i q
    rw [q] at e
    have a : es.toList.any (·.refKey) = false := by
      rw [List.any_eq_false]
      intro y hy
      obtain ⟨z, t, hkey⟩ := hk y (Array.mem_toList_iff.mp hy)
      simp [DictEntry.refKey, hkey]
    have a' : ¬ es.toList.any (·.refKey) = true := by rw [a]; exact Bool.false_ne_true
    rw [if_neg a']
    exact congrArg some e

theorem ObjM.look {h : Heap} {x dx C : Addr} {mA : Str → Option Value} (I : ObjM h x dx C mA) : ∃ od, PySem.W.InstAt h x (PySem.W.instObj C dx) C (some od) ∧ ∀ name, PySem.W.lookIn name od = some (mA name) :=
  let ⟨od, ho, hl⟩ := lookIn_ns I.ns
  ⟨od, ⟨I.obj, rfl, rfl, ho⟩, hl⟩

section
variable {prog : Program} {w : World} {A : Around} {E : Value → Shared → Prop} {s : Shared} {K : PySem.W.Frag} {x dx C f : Addr} {mA : Str → Option Value} {name : Str} {v : Value}

end

section
variable {P : Program} {w : World} {H H' : Hp} {h h' : Heap} {a C dx : Addr} {fs fs' : List (Str × V)}
theorem ins_get (hok : HOk P w H h) (e : H a = some (.ins C dx fs)) : ∃ mA, ObjM h a dx C mA ∧ (∀ f, RelO (fs.lookup f) (mA f)) ∧ PySem.Within mA (fs.map (·.1)) ∧ fs.length ≤ 1000 ∧ H dx = some (.own a) := by
  obtain ⟨d, z, ne, ob, mA, n, r, q⟩ := (show ObjOk P w H h a (.ins C dx fs) from hok a _ e)
  exact ⟨mA, ⟨ob, n, ne⟩, r, q, z, d⟩
end

structure Cls (K : PySem.W.Frag) (C : Addr) : Prop where
  pg : PySem.W.plainGet K C Str.empty = true
  hd : PySem.W.hasDictIn K C = true
  po : PySem.W.plainOver K C = true
  sa : PySem.W.findIn K (.ref C) "__setattr__" = some (some (.builtin "object.__setattr__"))
theorem Cls.get {K : PySem.W.Frag} {C : Addr} (c : Cls K C) (f : Str) : PySem.W.plainGet K C f = true := c.pg
section
variable {X : Cx} {pins : List (Addr × Obj)} {σ : St} {H : Hp} {s : Shared} {a C dx : Addr} {fs : List (Str × V)} {f : Str} {v : V} {A : Around} {E : Value → Shared → Prop}

end

section
variable {X : Cx} {o e value : Expr} {f : Str} {pos pos' tpos : Pos} {ta tv : TE}
end

section
variable {X : Cx} {pins : List (Addr × Obj)} {σ : St} {H : Hp} {s : Shared} {A : Around} {E : Value → Shared → Prop} {Q : Value → Shared → Prop} {c : Value} {b : Bool}
inductive TyOf (K : PySem.W.Frag) (H : Hp) : V → Value → Prop where
  | non : TyOf K H .non (.type "NoneType")
  | bl (x : Bool) : TyOf K H (.bl x) (.type "bool")
  | int (i : Int) : TyOf K H (.int i) (.type "int")
  | str (x : Str) : TyOf K H (.str x) (.type "str")
  | flt (x : UInt64) : TyOf K H (.flt x) (.type "float")
  | lst {a : Addr} {xs : List V} (e : H a = some (.lst xs)) : TyOf K H (.ref a) (.type "list")
  | frz {a : Addr} {o : Obj} {xs : List V} (e : H a = some (.frz o (.lst xs))) : TyOf K H (.ref a) (.type "list")
  | tup {a : Addr} {xs : List V} (e : H a = some (.tup xs)) : TyOf K H (.ref a) (.type "tuple")
  | dK {a : Addr} {kvs : List (Key × V)} (e : H a = some (.dK kvs)) : TyOf K H (.ref a) (.type "dict")
  | dT {a : Addr} {kvs : List (List Key × V)} (e : H a = some (.dT kvs)) : TyOf K H (.ref a) (.type "dict")
  | ins {a C dx : Addr} {fs : List (Str × V)} (e : H a = some (.ins C dx fs)) (cl : Cls K C) (ha : PySem.W.findIn K (.ref C) "__class__" = some (some (.builtin "object.__class__")))
      (hn : PySem.W.specialIn K (.builtin "object.__class__") "__get__" = some (some (.builtin "getset_descriptor.__get__"))) (htk : PySem.W.takesIn K (.builtin "object.__class__") = some true)
      (hm : PySem.W.mroIn K C (.type "object") = some true) : TyOf K H (.ref a) (.ref C)
theorem isinst_ok {x : V} {u t : Value} (I : Inv X pins σ H s) (rx : RelV x u) (ty : TyOf X.K H x t) (e : PySem.W.kitOne X.K t c = some b) (h : ∀ tk, Q (.bool b) { s with toks := tk }) :
    wpAny (model X.prog X.w) A (call (.builtin "isinstance") [u, c]) Q E s := by
  cases ty with
  | non => cases (show u = Value.none from rx); exact PySem.W.kia_one PySem.W.kitx_none I.kIn True.intro e (fun z => nomatch z) h
  | bl y => cases (show u = Value.bool y from rx); exact PySem.W.kia_one PySem.W.kitx_bool I.kIn True.intro e (fun z => nomatch z) h
  | int i => obtain ⟨t, q⟩ := (show ∃ t, u = Value.int i t from rx); cases q; exact PySem.W.kia_one PySem.W.kitx_int I.kIn True.intro e (fun z => nomatch z) h
  | str y => obtain ⟨t, q⟩ := (show ∃ t, u = Value.str y t from rx); cases q; exact PySem.W.kia_one PySem.W.kitx_str I.kIn True.intro e (fun z => nomatch z) h
  | flt y => obtain ⟨t, q⟩ := (show ∃ t, u = Value.float y t from rx); cases q; exact PySem.W.kia_one PySem.W.kitx_float I.kIn True.intro e (fun z => nomatch z) h
  | @lst a xs ea =>
    cases (show u = Value.ref a from rx)
    obtain ⟨_, _, n, _, h1⟩ := (show ObjOk X.prog X.w H s.heap a (.lst xs) from I.hok a _ ea)
    exact PySem.W.kia_one PySem.W.kitx_list I.kIn ⟨_, h1, rfl⟩ e (fun z => nomatch z) h
  | @frz a ob xs ea =>
    cases (show u = Value.ref a from rx)
    obtain ⟨_, _, _, n, _, h1⟩ := (show ObjOk X.prog X.w H s.heap a (.frz ob (.lst xs)) from I.hok a _ ea)
    exact PySem.W.kia_one PySem.W.kitx_list I.kIn ⟨_, h1, rfl⟩ e (fun z => nomatch z) h
  | @tup a xs ea =>
    cases (show u = Value.ref a from rx)
    obtain ⟨_, _, _, p⟩ := (show ObjOk X.prog X.w H s.heap a (.tup xs) from I.hok a _ ea)
    obtain ⟨o, h1, h2, _⟩ := p
    exact PySem.W.kia_one PySem.W.kitx_tuple I.kIn ⟨o, h1, h2⟩ e (fun z => nomatch z) h
  | @dK a kvs ea =>
    cases (show u = Value.ref a from rx)
    obtain ⟨_, _, vs, _, p⟩ := (show ObjOk X.prog X.w H s.heap a (.dK kvs) from I.hok a _ ea)
    obtain ⟨o, es, ep, h1, h2, _⟩ := p
    exact PySem.W.kia_one PySem.W.kitx_dict I.kIn ⟨o, h1, h2.1⟩ e (fun z => nomatch z) h
  | @dT a kvs ea =>
    cases (show u = Value.ref a from rx)
    obtain ⟨_, _, xs, _, o, es, ep, h1, h2, _⟩ := (show ObjOk X.prog X.w H s.heap a (.dT kvs) from I.hok a _ ea)
    exact PySem.W.kia_one PySem.W.kitx_dict I.kIn ⟨o, h1, h2.1⟩ e (fun z => nomatch z) h
  | @ins a C dx fs ea cl ha hn htk hm =>
    cases (show u = Value.ref a from rx)
    obtain ⟨mA, O, _⟩ := ins_get I.hok ea
    obtain ⟨od, J, _⟩ := O.look
    exact PySem.W.kia_one (PySem.W.kitx_own (cl.get _) cl.hd ha hn htk hm) I.kIn J e (fun z => nomatch z) h
end
end L2

namespace L2
open PySem PySem.Spec PyProof.Rows

structure Room (k : Nat) (A : Around) : Prop where
  hd : A.handled = none
  dp : A.depth + 3 * k + 5 < recursionLimit
  un : A.units + 16 * k + 200 < cLine
theorem Room.mono {j k : Nat} {A : Around} (r : Room k A) (h : j ≤ k) : Room j A := ⟨r.hd, by have := r.dp; omega, by have := r.un; omega⟩
theorem Room.deeper {k : Nat} {A : Around} (r : Room (k + 1) A) (env : Env) : Room k (A.deeper env) :=
  ⟨r.hd, by have := r.dp; show A.depth + 1 + 3 * k + 5 < _; omega, by have := r.un; show A.units + 3 + 16 * k + 200 < _; omega⟩
theorem Room.depth {k : Nat} {A : Around} (r : Room k A) : A.depth < recursionLimit := by have := r.dp; omega
theorem Room.units {k : Nat} {A : Around} (r : Room k A) : A.units + 64 < cLine := by have := r.un; omega
def tNil : TA := fun _ H Q => Q [] H
def tCons (ta : TE) (tr : TA) : TA := fun σ H Q => ta σ H fun x H1 => tr σ H1 fun xs H2 => Q (x :: xs) H2
section
variable {X : Cx} {e : Expr} {es : List Expr} {te : TE} {t : TA} {pos : Pos}
theorem pa_nil : PA X [] tNil := fun _ _ _ _ H Q I h => Calls.spliced_nil ⟨[], H, I, .nil, h⟩
theorem pa_cons (ha : PE X e te) (hr : PA X es t) (hs : starEach (e :: es) X.env = (false, eval e X.env) :: starEach es X.env := by rfl) : PA X (e :: es) (tCons te t) := by
  intro pos pins s σ H Q I h
  rw [hs]
  show wpAny _ _ (spliced ((false, eval e X.env) :: backTo pos (starEach es X.env))) _ _ s
  refine Calls.spliced_cons (thn (ha pins s σ H _ I h) fun u s1 ⟨x, H1, I1, r1, q1⟩ => ?_)
  exact thn (hr pos pins s1 σ H1 _ I1 q1) fun us s2 ⟨xs, H2, I2, r2, q2⟩ => ⟨x :: xs, H2, I2, .cons r1 r2, q2⟩

def tLst (t : TA) : TE := fun σ H Q => t σ H fun xs H1 => xs.length ≤ sizeLine ∧ ∀ p, H1 p = none → Q (.ref p) (upd H1 p (.lst xs))
theorem pe_lst (h : PA X es t) : PE X (.List es pos) (tLst t) := by
  intro pins s σ H Q I hq
  refine wpAny_List_spliced (thn (h pos pins s σ H _ I hq) fun us s1 ⟨xs, H1, I1, r, z, q⟩ => ⟨by rw [← r.length]; exact z, ?_⟩)
  have hf : H1 s1.heap.objs.size = none := I1.hok.fresh (Nat.le_refl _)
  refine ⟨.ref s1.heap.objs.size, upd H1 s1.heap.objs.size (.lst xs), I1.laid (t' := s1.toks) (fun b u e => Heap.get?_push_of_some _ e) (Nat.le_refl _) ?_, rfl, q _ hf⟩
  exact ⟨z, us, 0, r, Heap.get?_push_size _ rfl⟩
end

abbrev Sp := List V → Hp → VK → XK → Prop
abbrev CXT := List Env → Hp → Shared → XK → Value → Shared → Prop

structure Env0 (P : Program) (w : World) (K : PySem.W.Frag) (mg : Str → Option Value) (base : Heap) (A : Around) (outer : List Env) (s : Shared) (H : Hp) : Prop where
  frames : A.frames = some outer
  mod : Mod K mg base
  bs : ∀ b o, base.get? b = some o → s.heap.get? b = some o ∧ H b = none
  bsz : base.objs.size ≤ s.heap.objs.size
  funs : s.heap.FunFrames base outer
  frf : ∀ b ∈ frs outer, H b = none
  hok : HOk P w H s.heap
  bare : AllBare s.gens
def CE (outer : List Env) (P : Program) (w : World) (H : Hp) (s : Shared) (Q : VK) (u : Value) (s' : Shared) : Prop :=
  ∃ v H', s'.os = s.os ∧ AllBare s'.gens ∧ Un (frs outer) [] H H' s.heap s'.heap ∧ HOk P w H' s'.heap ∧ RelV v u ∧ Q v H'
def CR (CX : CXT) (outer : List Env) (P : Program) (w : World) (H : Hp) (s : Shared) (Q : VK) (E : XK) (r : Result) (s' : Shared) : Prop :=
  match r with
  | .ok (.ret u) => CE outer P w H s Q u s'
  | .ok _ => False
  | .error e => CX outer H s E e s'
structure FnOk (P : Program) (w : World) (K : PySem.W.Frag) (mg : Str → Option Value) (base : Heap) (CX : CXT) (k : Nat) (f : Addr) (fd : FuncData) (ps : List Str) (sp : Sp) : Prop where
  len : ∀ vs H Q E, sp vs H Q E → vs.length = ps.length
  run : ∀ (A : Around) (outer : List Env) (s : Shared) (H : Hp) (args : Args) (us : List Value) (vs : List V) (Q : VK) (E : XK), Room k A → Env0 P w K mg base A outer s H → BindsTo s fd args (ps.zip us) → Vals vs us → sp vs H Q E →
    codeAny (model P w) A (.call (.ref f) args) (CR CX outer P w H s Q E) s
section
variable {X : Cx} {pins : List (Addr × Obj)} {σ : St} {H : Hp} {s s' : Shared}
theorem Inv.env0 (I : Inv X pins σ H s) : Env0 X.prog X.w X.K X.mg X.base X.A X.stack s H :=
  ⟨I.ok.frames, I.ok.mod, I.bs, Nat.le_trans I.ok.bsz I.sz, I.stack, I.stkFree, I.hok, I.bare⟩
theorem Inv.after {Q : VK} {u : Value} (I : Inv X pins σ H s) (h : CE X.stack X.prog X.w H s Q u s') : EP X pins σ Q u s' := by
  obtain ⟨v, H', os, bare, un, hok, r, q⟩ := h
  obtain ⟨hh, g, d, t, os'⟩ := s'
  obtain rfl : os' = s.os := os
  exact ⟨v, H', I.call (h' := hh) (g' := g) (d' := d) (t' := t) (ch := []) un hok bare (fun b z => absurd z (by simp)), r, q⟩
end

def tCall (sp : Sp) (dvs : List V) (E : XK) (t : TA) : TE := fun σ H Q => t σ H fun vs H1 => sp (vs ++ dvs) H1 Q E
def Binds (K : PySem.W.Frag) (fd : FuncData) (ps : List Str) (ds : List Value) : Prop :=
  ∀ (s : Shared) (us : List Value), K.In s.heap → (us ++ ds).length = ps.length → BindsTo s fd ⟨us, []⟩ (ps.zip (us ++ ds))
theorem Binds.all {K : PySem.W.Frag} {fd : FuncData} {ps : List Str} (h : ∀ us : List Value, us.length = ps.length → bindArgs fd ⟨us, []⟩ = pure (ps.zip us)) : Binds K fd ps [] := fun s us _ hl => by
  rw [List.append_nil] at hl ⊢
  exact .of_eq (h us hl)

def Passes (CX : CXT) (X : Cx) (E : XK) : Prop := ∀ (pins : List (Addr × Obj)) (σ : St) (H : Hp) (s : Shared) (e : Value) (s' : Shared), Inv X pins σ H s → CX X.stack H s E e s' → X.xe e s'

section
variable {X : Cx} {CX : CXT} {k : Nat} {f C : Addr} {fd : FuncData} {ps : List Str} {sp : Sp} {dvs : List V} {ds : List Value} {E : XK} {x m : Str} {p pos apos : Pos} {e o : Expr} {es : List Expr} {ta : TE} {t : TA}

theorem run_fn {pins : List (Addr × Obj)} {σ : St} {H : Hp} {s : Shared} {Q : VK} {us : List Value} {vs : List V} (F : FnOk X.prog X.w X.K X.mg X.base CX k f fd ps sp) (hr : Room k X.A) (hb : Binds X.K fd ps ds) (hd : Vals dvs ds) (hx : Passes CX X E)
    (I : Inv X pins σ H s) (r : Vals vs us) (h : sp (vs ++ dvs) H Q E) : wpAny (model X.prog X.w) X.A (call (.ref f) us) (EP X pins σ Q) X.xe s := by
  have r2 : Vals (vs ++ dvs) (us ++ ds) := r.append hd
  have hl : (us ++ ds).length = ps.length := by rw [← r2.length]; exact F.len _ _ _ _ h
  refine wpAny_call (codeAny_mono (F.run X.A X.stack s H ⟨us, []⟩ (us ++ ds) (vs ++ dvs) Q E hr I.env0 (hb s us I.kIn hl) r2 h) fun r s' hq => ?_)
  cases r with
  | error e => exact hx pins σ H s e s' I hq
  | ok fl =>
    cases fl with
    | ret u => exact I.after hq
    | next => exact False.elim hq
    | brk => exact False.elim hq
    | cont => exact False.elim hq

theorem pe_call (F : FnOk X.prog X.w X.K X.mg X.base CX k f fd ps sp) (hr : Room k X.A) (hg : Gl X x) (hm : X.mg x = some (.ref f)) (hk : PySem.W.keepIn X.K (.ref f) = true) (hb : Binds X.K fd ps ds) (hd : Vals dvs ds) (hx : Passes CX X E)
    (ha : PA X (e :: es) t) (hdb : (x == ("__debug__" : Str)) = false := by decide) (he : starEach (e :: es) X.env = (false, eval e X.env) :: starEach es X.env := by rfl) (hpl : (backTo pos (starEach es X.env)).any (·.1) = false := by rfl) :
    PE X (.Call (.Name x p) (e :: es) [] pos) (tCall sp dvs E t) := by
  intro pins s σ H Q I h
  refine wpAny_Call_Name_kw (ld_glob I hg hm ?_ hdb)
  refine PySem.W.callWith_K (h₀ := X.base) I.ok.mod.kin hk (thn (ha pos pins s σ H _ I h) fun us s1 ⟨vs, H1, I1, r, q⟩ => ⟨I1.kIn, ?_⟩) he hpl
  exact run_fn F hr hb hd hx I1 r q
end

section
variable {X : Cx} {CX : CXT} {k : Nat} {f C : Addr} {fd : FuncData} {ps ks : List Str} {sp : Sp} {E : XK} {x m : Str} {p pos apos kpos : Pos} {e o : Expr} {es : List Expr} {kws : List Keyword} {te ta : TE} {t tk : TA} {nm : Option Str}
variable {g : List Value → List Value → List Value} {gV : List V → List V → List V}
end

structure FnScope (N P : List Str) (sc : Scope) : Prop where
  kind : sc.kind = .function
  co : sc.isCoroutine = false
  gen : sc.isGenerator = false
  nd : N.Nodup
  pre : N.take P.length = P
  par : ∀ x ∈ P, sc.names.lookup x = some .local ∨ sc.names.lookup x = some .cell
  nofree : ∀ y ∈ sc.names, y.2 ≠ .free

theorem bindL_out {kindOf : Str → Option NameKind} {x : Str} : ∀ {binds : List (Str × Value)} {m : Str → Option Value}, (∀ v, (x, v) ∉ binds) → bindL kindOf binds m x = m x
  | [], _, _ => rfl
  | (n, v) :: r, m, h => by
    unfold bindL
    rw [bindL_out fun w hw => h w (List.mem_cons_of_mem _ hw)]
    split
    · have : x ≠ n := by rintro rfl; exact h v List.mem_cons_self
      simp [this]
    · rfl
theorem bindC_out {kindOf : Str → Option NameKind} {x : Str} : ∀ {binds : List (Str × Value)} {m : Str → Option Value}, (∀ v, (x, v) ∉ binds) → bindC kindOf binds m x = m x
  | [], _, _ => rfl
  | (n, v) :: r, m, h => by
    unfold bindC
    rw [bindC_out fun w hw => h w (List.mem_cons_of_mem _ hw)]
    split
    · rfl
    · have : x ≠ n := by rintro rfl; exact h v List.mem_cons_self
      simp [this]
theorem bindL_get {kindOf : Str → Option NameKind} {x : Str} {v : Value} : ∀ {P : List Str} {vs : List Value} {i : Nat} {m : Str → Option Value}, P.Nodup → P[i]? = some x → vs[i]? = some v → kindOf x = some .local →
    bindL kindOf (P.zip vs) m x = some v
  | [], _, _, _, _, h, _, _ => by simp at h
  | _ :: _, [], _, _, _, _, h, _ => by simp at h
  | p :: P, w :: vs, 0, m, nd, h1, h2, hk => by
    simp at h1 h2; subst h1; subst h2
    show bindL kindOf ((p, w) :: P.zip vs) m p = _
    unfold bindL
    rw [bindL_out fun v hv => (List.nodup_cons.mp nd).1 (List.of_mem_zip hv).1, if_pos hk]
    simp
  | p :: P, w :: vs, i + 1, m, nd, h1, h2, hk => by
    show bindL kindOf ((p, w) :: P.zip vs) m x = _
    unfold bindL
    exact bindL_get (i := i) (List.nodup_cons.mp nd).2 (by simpa using h1) (by simpa using h2) hk
theorem bindC_get {kindOf : Str → Option NameKind} {x : Str} {v : Value} : ∀ {P : List Str} {vs : List Value} {i : Nat} {m : Str → Option Value}, P.Nodup → P[i]? = some x → vs[i]? = some v → kindOf x ≠ some .local →
    bindC kindOf (P.zip vs) m x = some v
  | [], _, _, _, _, h, _, _ => by simp at h
  | _ :: _, [], _, _, _, _, h, _ => by simp at h
  | p :: P, w :: vs, 0, m, nd, h1, h2, hk => by
    simp at h1 h2; subst h1; subst h2
    show bindC kindOf ((p, w) :: P.zip vs) m p = _
    unfold bindC
    rw [bindC_out fun v hv => (List.nodup_cons.mp nd).1 (List.of_mem_zip hv).1, if_neg hk]
    simp
  | p :: P, w :: vs, i + 1, m, nd, h1, h2, hk => by
    show bindC kindOf ((p, w) :: P.zip vs) m x = _
    unfold bindC
    exact bindC_get (i := i) (List.nodup_cons.mp nd).2 (by simpa using h1) (by simpa using h2) hk

def start (N : List Str) (vs : List V) : St := vs.map some ++ List.replicate (N.length - vs.length) none

def cxOf (CX : CXT) (P : Program) (w : World) (K : PySem.W.Frag) (mg : Str → Option Value) (base : Heap) (N : List Str) (qual : Str) (scope : Scope) (f : Addr) (cd : Value) (A : Around) (outer : List Env) (s : Shared) (H : Hp) (E : XK) : Cx where
  prog := P
  w := w
  K := K
  mg := mg
  base := base
  A := A.deeper (envOfC qual scope s.heap.objs.size f cd)
  N := N
  s₀ := s
  H₀ := H
  env := envOfC qual scope s.heap.objs.size f cd
  outer := outer
  stack := envOfC qual scope s.heap.objs.size f cd :: outer
  ex := []
  calm := true
  fn := fun _ => true
  pn := []
  xe := fun e s' => wpAny (model P w) (A.deeper (envOfC qual scope s.heap.objs.size f cd)) (leaving (envOfC qual scope s.heap.objs.size f cd) e) (fun _ s'' => CX outer H s E e s'') (fun e' s'' => CX outer H s E e' s'') s'

theorem cell_has {sc : Scope} {n : Nat} {x : Str} (h : sc.names.lookup x = some .cell) : ∃ c, (cellsFrom n sc.names []).lookup x = some c := by
  have q := PySem.W.cellsFrom_some sc.names n [] (.inl h)
  exact Option.isSome_iff_exists.mp q

theorem inv_start {CX : CXT} {P : Program} {w : World} {K : PySem.W.Frag} {mg : Str → Option Value} {base : Heap} {N ps : List Str} {qual : Str} {scope : Scope} {f : Addr} {cd : Value} {A : Around} {outer : List Env} {s s1 : Shared} {H : Hp} {E : XK} {us : List Value} {vs : List V}
    (S : FnScope N ps scope) (hd : A.handled = none) (e0 : Env0 P w K mg base A outer s H) (hl : vs.length = ps.length) (r : Vals vs us)
    (x : InCallC s s.heap.objs.size (bindL (envOfC qual scope s.heap.objs.size f cd).kindOf (ps.zip us) fun _ => none) (cellsFrom (s.heap.objs.size + 1) scope.names []) (bindC (envOfC qual scope s.heap.objs.size f cd).kindOf (ps.zip us) fun _ => none) s1) :
    Inv (cxOf CX P w K mg base N qual scope f cd A outer s H E) [] (start N vs) H s1 := by
  have hpl : ps.length ≤ N.length := by have := congrArg List.length S.pre; rw [List.length_take] at this; omega
  obtain ⟨h1, tk, rfl, hk⟩ := x.done
  have noA : ∀ b : Addr, b ∉ (cxOf CX P w K mg base N qual scope f cd A outer s H E).ex := fun b z => absurd (show b ∈ ([] : List Addr) from z) (by simp)
  refine ⟨⟨e0.mod, S.kind, rfl, rfl, Nat.le_refl _, fun y z c h1 h2 => ?_, fun y hy => ?_, fun y c _ h => ?_, fun _ => hd, Around.frames_deeper e0.frames, .inr ⟨rfl, rfl⟩, fun b z => absurd z (noA b), e0.bs, e0.bsz, fun b _ _ => noA b, fun b z => absurd z (noA b), e0.funs, e0.frf⟩,
    rfl, e0.bare, Un.kept hk, ⟨_, x.toInCall.ns, fun i y v h1 h2 h3 => ?_⟩, fun y c h => ⟨_, x.cell y c h⟩, e0.hok.fresh (Nat.le_refl _), fun y c h => ?_, fun p hp => absurd (show p ∈ ([] : List (Addr × Obj)) from hp) (by simp), e0.hok.kept hk, ?_⟩
  · exact name_of_addr x.apart (PySem.mem_of_lookup h1) (PySem.mem_of_lookup h2)
  · have hy : scope.names.lookup y = some .cell ∨ scope.names.lookup y = some .free := hy
    rcases hy with hy | hy
    · exact cell_has hy
    · exact absurd rfl (S.nofree _ (PySem.mem_of_lookup hy))
  · exact Nat.le_of_lt (x.above y c (PySem.mem_of_lookup h))
  · have hi : i < vs.length := by
      unfold start at h2
      by_cases hi : i < vs.length
      · exact hi
      · rw [List.getElem?_append_right (by simpa using hi)] at h2
        rw [List.getElem?_replicate] at h2
        split at h2 <;> cases h2
    have ha : vs[i]? = some v := by
      unfold start at h2
      rw [List.getElem?_append_left (by simpa using hi), List.getElem?_map] at h2
      cases e : vs[i]? with
      | none => rw [e] at h2; cases h2
      | some a => rw [e] at h2; cases h2; rfl
    obtain ⟨u, hu, rv⟩ := r.get ha
    have hp : ps[i]? = some y := by
      rw [← S.pre, List.getElem?_take_of_lt (by omega)]; exact h1
    have ndP : ps.Nodup := by rw [← S.pre]; exact S.nd.sublist (List.take_sublist _ _)
    refine ⟨u, rv, ?_⟩
    rcases S.par y (List.mem_of_getElem? hp) with k | k
    · exact .inl ⟨k, bindL_get ndP hp hu k⟩
    · obtain ⟨c, e⟩ := cell_has (n := s.heap.objs.size + 1) k
      refine .inr ⟨.inl k, c, e, ?_⟩
      have q := x.cell y c e
      rw [bindC_get ndP hp hu (by show scope.names.lookup y ≠ _; rw [k]; decide)] at q
      exact q
  · exact e0.hok.fresh (Nat.le_of_lt (x.above y c (PySem.mem_of_lookup h)))
  · unfold start
    show _ = N.length
    rw [List.length_append, List.length_map, List.length_replicate]
    omega

theorem fn_of {CX : CXT} {P : Program} {w : World} {K : PySem.W.Frag} {mg : Str → Option Value} {base : Heap} {k : Nat} {f : Addr} {name qual : Str} {params : Arguments} {body : List Stmt} {scope : Scope} {dV kV doc pm cdv ct oc : Value} {an od : Option Addr}
    {osl : Array (Option Value)} {N ps : List Str} {sp : Sp} (lk : K.lookup f = some ⟨oc, od, .func (PySem.W.fnOf name qual params body scope dV kV doc pm an cdv ct), osl⟩) (hcd : PySem.W.codeIn K cdv qual = true) (S : FnScope N ps scope)
    (len : ∀ vs H Q E, sp vs H Q E → vs.length = ps.length)
    (hbody : ∀ (A : Around) (outer : List Env) (s : Shared) (H : Hp) (vs : List V) (Q : VK) (E : XK), Room k (A.deeper (envOfC qual scope s.heap.objs.size f cdv)) → sp vs H Q E →
      ∃ t, PSs (cxOf CX P w K mg base N qual scope f cdv A outer s H E) body t ∧ t { nx := fun _ H' => Q .non H', rt := Q } (start N vs) H) :
    FnOk P w K mg base CX (k + 1) f (PySem.W.fnOf name qual params body scope dV kV doc pm an cdv ct) ps sp := by
  refine ⟨len, fun A outer s H args us vs Q E hr e0 hb r hsp => ?_⟩
  have hl := len _ _ _ _ hsp
  have KX : K.In s.heap := e0.mod.kin.keeps fun b o e => (e0.bs b o e).1
  have lim : s.heap.NoLimit := e0.mod.nolimit.keeps fun b o e => (e0.bs b o e).1
  have hkind : ∀ y ∈ ps.zip us, scope.names.lookup y.1 = some .local ∨ (scope.names.lookup y.1 = some .cell ∧ ((cellsFrom (s.heap.objs.size + 1) scope.names []).lookup y.1).isSome = true) := fun ⟨n, v⟩ hy => by
    rcases S.par n (List.of_mem_zip hy).1 with q | q
    · exact .inl q
    · exact .inr ⟨q, PySem.W.cellsFrom_some _ _ _ (.inl q)⟩
  refine codeAny_call_function hr.depth (KX _ _ lk) rfl S.co S.gen rfl (PySem.W.codeRec_of KX hcd) (hb _ _ _ _ ?_)
  refine wpAny_newFunctionEnv_cells S.kind hkind fun env he s1 x => ?_
  subst he
  refine ⟨lim.keeps x.toInCall.keep, codeAny_func ?_⟩
  obtain ⟨t, ht, hq⟩ := hbody A outer s H vs Q E (hr.deeper _) hsp
  have I : Inv (cxOf CX P w K mg base N qual scope f cdv A outer s H E) [] (start N vs) H s1 := inv_start S hr.hd e0 hl r x
  refine wpAny_mono (ht [] s1 (start N vs) H _ I hq) (fun fl s' hs => ?_) fun e s' hs => hs
  have fin : ∀ {σ' : St} {H' : Hp} {v : V} {u : Value}, Inv (cxOf CX P w K mg base N qual scope f cdv A outer s H E) [] σ' H' s' → RelV v u → Q v H' → CE outer P w H s Q u s' :=
    fun {σ' H' v u} J rv q => ⟨v, H', J.os, J.bare, J.base, J.hok, rv, q⟩
  cases fl with
  | ret u =>
    obtain ⟨v, σ', H', J, rv, q⟩ := hs
    exact fin J rv q
  | next =>
    obtain ⟨σ', H', J, q⟩ := hs
    exact fin (v := V.non) (u := Value.none) J rfl q
  | brk =>
    obtain ⟨_, _, _, q⟩ := hs
    exact False.elim q
  | cont =>
    obtain ⟨_, _, _, q⟩ := hs
    exact False.elim q
end L2

namespace L2
open PySem PySem.Spec PyProof.Rows
section
variable {X : Cx} {x : Str} {p pos : Pos} {e : Expr} {es : List Expr} {t : TA} {id T : String} {r : List V → Hp → VK → Prop}

def tCB (r : List V → Hp → VK → Prop) (t : TA) : TE := fun σ H Q => t σ H fun vs H1 => r vs H1 Q
theorem pe_callB (hc : CallR X (.builtin id) r) (hg : Gl X x) (hm : X.mg x = none) (hv : bootBuiltins x = some (.builtin id)) (ha : PA X (e :: es) t) (hn : x ≠ "__name__" := by decide) (hdb : (x == ("__debug__" : Str)) = false := by decide)
    (he : starEach (e :: es) X.env = (false, eval e X.env) :: starEach es X.env := by rfl) (hpl : (backTo pos (starEach es X.env)).any (·.1) = false := by rfl) : PE X (.Call (.Name x p) (e :: es) [] pos) (tCB r t) := by
  intro pins s σ H Q I h
  refine wpAny_Call_Name_kw (ld_blt I hg hm hv ?_ hn hdb)
  exact PyProof.Rows.callWith_builtin1 (thn (ha pos pins s σ H _ I h) fun us s1 ⟨vs, H1, I1, r1, q1⟩ => hc pins s1 σ H1 vs us Q I1 r1 q1) he hpl
theorem pe_callTy (hc : CallR X (.type T) r) (hg : Gl X x) (hm : X.mg x = none) (hv : bootBuiltins x = some (.type T)) (ha : PA X (e :: es) t) (hn : x ≠ "__name__" := by decide) (hdb : (x == ("__debug__" : Str)) = false := by decide)
    (he : starEach (e :: es) X.env = (false, eval e X.env) :: starEach es X.env := by rfl) (hpl : (backTo pos (starEach es X.env)).any (·.1) = false := by rfl) : PE X (.Call (.Name x p) (e :: es) [] pos) (tCB r t) := by
  intro pins s σ H Q I h
  refine wpAny_Call_Name_kw (ld_blt I hg hm hv ?_ hn hdb)
  exact PyProof.Rows.callWith_type1 (thn (ha pos pins s σ H _ I h) fun us s1 ⟨vs, H1, I1, r1, q1⟩ => hc pins s1 σ H1 vs us Q I1 r1 q1) he hpl
end
end L2

namespace HT
open PySem PyProof.Rows

section
open PySem.SeqAt
open PySem.AutoSeq1 (wpAny_loadPart')
open PySem.MeetsSeq PySem.MeetsSeq2 PySem.MeetsSeq3

end

section
variable {prog : Program} {w : World} {A : Around} {E : Value → Shared → Prop} {s : Shared}

end
end HT

namespace L2
open PySem PySem.Spec PyProof.Rows

theorem intsAre_of {ns : List Int} : ∀ {us : List Value}, Vals (ns.map V.int) us → IntsAre us ns := by
  induction ns with
  | nil => intro us r; rw [List.map_nil] at r; cases r; exact .nil
  | cons n ns ih =>
    intro us r
    rw [List.map_cons] at r
    cases r with
    | cons r1 r2 =>
      obtain ⟨t, e⟩ := r1
      subst e
      exact .cons n t (ih r2)

section
variable {X : Cx} {e : Expr} {te : TE} {lo hi : Option Expr} {tl th : TO} {pos p2 : Pos}

end
end L2

namespace L2
open PySem PySem.Spec PyProof.Rows

def ixN (n : Nat) (i : Int) : Option Nat := if 0 ≤ i then (if i < n then some i.toNat else none) else if -(n : Int) ≤ i then some (i + n).toNat else none
def atI {α : Type} (xs : List α) (i : Int) : Option α := (ixN xs.length i).bind fun j => xs[j]?
theorem ixN_seq {n : Nat} {i : Int} {j : Nat} (h : ixN n i = some j) : seqIndex? i n = some j ∧ j < n ∧ -(n : Int) ≤ i ∧ i < n := by
  unfold ixN at h
  by_cases h0 : 0 ≤ i
  · rw [if_pos h0] at h
    by_cases h1 : i < n
    · rw [if_pos h1] at h
      have e : i.toNat = j := Option.some.inj h
      exact ⟨by rw [seqIndex_of h0 h1, e], by omega, by omega, h1⟩
    · rw [if_neg h1] at h; cases h
  · rw [if_neg h0] at h
    by_cases h1 : -(n : Int) ≤ i
    · rw [if_pos h1] at h
      have e : (i + n).toNat = j := Option.some.inj h
      exact ⟨by rw [seqIndex_neg (by omega) h1, e], by omega, h1, by omega⟩
    · rw [if_neg h1] at h; cases h
theorem atI_get {α : Type} {xs : List α} {i : Int} {v : α} (h : atI xs i = some v) : ∃ j, seqIndex? i xs.length = some j ∧ xs[j]? = some v ∧ j < xs.length ∧ -(xs.length : Int) ≤ i ∧ i < xs.length := by
  unfold atI at h
  cases e : ixN xs.length i with
  | none => rw [e] at h; cases h
  | some j =>
    rw [e] at h
    obtain ⟨h1, h2, h3, h4⟩ := ixN_seq e
    exact ⟨j, h1, h, h2, h3, h4⟩
theorem atI_nat {α : Type} {xs : List α} {j : Nat} {v : α} (h : xs[j]? = some v) : atI xs (j : Int) = some v := by
  have hj : j < xs.length := (List.getElem?_eq_some_iff.mp h).1
  have e : ixN xs.length (j : Int) = some j := by
    unfold ixN
    rw [if_pos (by omega), if_pos (by omega)]; simp
  unfold atI; rw [e]; exact h
def PlainIx (b : Expr) : Prop := ∀ o i, subscripted b false o i = operate [o, i] (getItem o i)
def IxR (X : Cx) (r : R2) : Prop :=
  ∀ (value slice : Expr) (pins : List (Addr × Obj)) (s : Shared) (σ : St) (H : Hp) (x y : V) (v u : Value) (Q : VK), Inv X pins σ H s → RelV x v → RelV y u → r x y H Q →
    subscripted slice false v u = operate [v, u] (getItem v u) → wpAny (model X.prog X.w) X.A (subscriptTail value slice v u) (EP X pins σ Q) X.xe s
def MtR (X : Cx) (id : String) (r : V → List V → Hp → VK → Prop) : Prop :=
  ∀ (pins : List (Addr × Obj)) (s : Shared) (σ : St) (H : Hp) (x : V) (xs : List V) (v : Value) (us : List Value) (Q : VK), Inv X pins σ H s → RelV x v → Vals xs us → r x xs H Q →
    wpAny (model X.prog X.w) X.A (call (.builtin id) (v :: us)) (EP X pins σ Q) X.xe s
section
variable {X : Cx} {a b : Expr} {ta tb : TE} {pos : Pos}
theorem pe_ix {r : R2} (hr : IxR X r) (ha : PE X a ta) (hb : PE X b tb) (hs : PlainIx b) : PE X (.Subscript a b pos) (tOp r ta tb) := by
  intro pins s σ H Q I h
  exact Subscript_ (binT ha hb I h fun v u s2 x y H2 I2 rx ry q => hr a b pins s2 σ H2 x y v u Q I2 rx ry q (hs _ _))

def rIxL (K : PySem.W.Frag) : R2 := fun x y H Q => ∃ p xs i v, x = .ref p ∧ y = .int i ∧ SqL K H p xs ∧ atI xs i = some v ∧ Q v H
theorem ix_list : IxR X (rIxL X.K) := by
  intro value slice pins s σ H x y v u Q I rx ry h hs
  obtain ⟨p, xs, i, z, rfl, rfl, hq, he, q⟩ := h
  cases rx
  obtain ⟨t, rfl⟩ := ry
  obtain ⟨its, r, pl, hz⟩ := I.list hq
  obtain ⟨j, h1, h2, h3, h4, h5⟩ := atI_get he
  obtain ⟨w, ew, rw'⟩ := r.get h2
  have hl := r.length
  have hn := line63
  have fin : EP X pins σ Q w s := ⟨z, H, I, rw', q⟩
  by_cases h0 : 0 ≤ i
  · have hj : i.toNat = j := by
      rw [seqIndex_of h0 h5] at h1
      exact Option.some.inj h1
    exact item_listR pl.isList h0 (by omega) (by rw [hj]; simpa using ew) fin hs
  · have hj : (i + (its.toArray.size : Int)).toNat = j := by
      rw [seqIndex_neg (by omega) h4] at h1
      rw [List.size_toArray, ← hl]
      exact Option.some.inj h1
    exact subscriptTail_builtinR (x := w) pl.isList.typeIs slot_list_getitem.lookup
      (wpAny_getItem_list_neg (Q := fun r s' => r = w ∧ EP X pins σ Q r s') pl.isList (by omega) (by rw [List.size_toArray] <;> omega) (by omega) (by rw [hj]; simpa using ew) ⟨rfl, fin⟩) hs
theorem mapSeq_set (its : List Value) (n j : Nat) (u : Value) : Obj.mapSeq (·.setIfInBounds j u) { cls := .type "list", data := .seq its.toArray n } = { cls := .type "list", data := .seq (its.set j u).toArray n } := by
  simp [Obj.mapSeq]
theorem Inv.lst {pins : List (Addr × Obj)} {σ : St} {H : Hp} {s : Shared} {p : Addr} {xs : List V} (I : Inv X pins σ H s) (h : H p = some (.lst xs)) :
    ∃ (its : List Value) (n : Nat), Vals xs its ∧ s.heap.get? p = some { cls := .type "list", data := .seq its.toArray n } ∧ xs.length ≤ sizeLine := by
  obtain ⟨z, its, n, r, e⟩ := I.hok p _ h
  exact ⟨its, n, r, e, z⟩
theorem Inv.lstUpd {pins : List (Addr × Obj)} {σ : St} {H : Hp} {s : Shared} {p : Addr} {xs ys : List V} {its its' : List Value} {n n' : Nat} {f : Obj → Obj} (I : Inv X pins σ H s) (h : H p = some (.lst xs))
    (ho : s.heap.get? p = some { cls := .type "list", data := .seq its.toArray n }) (hf : f { cls := .type "list", data := .seq its.toArray n } = { cls := .type "list", data := .seq its'.toArray n' }) (r : Vals ys its') (hz : ys.length ≤ sizeLine) (t : Nat) :
    Inv X pins σ (upd H p (.lst ys)) { s with heap := s.heap.update p f, toks := t } := by
  have e : (s.heap.update p f).get? p = some { cls := .type "list", data := .seq its'.toArray n' } := by
    rw [Heap.get?_update_self f ho (by rw [hf] <;> rfl), hf]
  refine I.write (x := p) (e := p) (by rw [h]; trivial) (.inl rfl) (fun b u hb q => (Heap.get?_update_other _ _ (Ne.symm hb)).trans q) ⟨_, e⟩ ?_
  exact ⟨hz, its', n', r, e⟩
def rSetL : V → V → V → Hp → (Hp → Prop) → Prop := fun o i v H Q => ∃ p xs k j, o = .ref p ∧ i = .int k ∧ H p = some (.lst xs) ∧ ixN xs.length k = some j ∧ Q (upd H p (.lst (xs.set j v)))
theorem set_list : PSet X rSetL := by
  intro pins s σ H o i v ov iv u Q I ro ri rv h
  obtain ⟨p, xs, k, j, rfl, rfl, hp, hj, q⟩ := h
  cases ro
  obtain ⟨t, rfl⟩ := ri
  obtain ⟨its, n, r, ho, hz⟩ := I.lst hp
  obtain ⟨h1, h2, h3, h4⟩ := ixN_seq hj
  have hl := r.length
  have hn := line63
  have I' : Inv X pins σ (upd H p (.lst (xs.set j v))) { s with heap := s.heap.update p (Obj.mapSeq (·.setIfInBounds j u)) } :=
    I.lstUpd hp ho (mapSeq_set its n j u) (r.set rv j) (by rw [List.length_set]; exact hz) s.toks
  by_cases h0 : 0 ≤ k
  · have hk : k.toNat = j := by
      rw [seqIndex_of h0 h4] at h1
      exact Option.some.inj h1
    exact PySem.W.ki_setAt ho h0 (by omega) (by rw [List.size_toArray, ← hl]; exact h4) (by rw [hk]; exact ⟨_, I', q⟩)
  · have hk : (k + (its.toArray.size : Int)).toNat = j := by
      rw [seqIndex_neg (by omega) h3] at h1
      rw [List.size_toArray, ← hl]
      exact Option.some.inj h1
    exact PySem.W.ki_setBack ho (by omega) (by rw [List.size_toArray, ← hl]; exact h3) (by omega) (by rw [hk]; exact ⟨_, I', q⟩)

theorem call_len_seq : CallR X (.builtin "len") (fun xs H Q => ∃ p ys, xs = [.ref p] ∧ (SqL X.K H p ys ∨ SqT X.K H p ys) ∧ Q (.int ys.length) H) := by
  intro pins s σ H xs us Q I r h
  obtain ⟨p, ys, rfl, hq, q⟩ := h
  obtain ⟨u, rfl, rx⟩ := vals1 r
  cases rx
  have hn := line63
  rcases hq with hq | hq
  · obtain ⟨its, r', pl, hz⟩ := I.list hq
    have hlen := r'.length
    exact Calls.call_len_list pl.isList (by simp only [List.size_toArray] <;> omega) ⟨.int ys.length, H, I.tok _, ⟨s.toks + 1, by rw [List.size_toArray, hlen]⟩, q⟩
  · obtain ⟨its, r', pl, hz⟩ := I.tuple hq
    have hlen := r'.length
    exact len_tuple pl (by simp only [List.size_toArray] <;> omega) ⟨.int ys.length, H, I.tok _, ⟨s.toks + 1, by rw [List.size_toArray, hlen]⟩, q⟩
theorem call_list_of : CallR X (.type "list") (fun xs H Q => ∃ p ys, xs = [.ref p] ∧ (SqL X.K H p ys ∨ SqT X.K H p ys) ∧ ∀ l, H l = none → Q (.ref l) (upd H l (.lst ys))) := by
  intro pins s σ H xs us Q I r h
  obtain ⟨p, ys, rfl, hq, q⟩ := h
  obtain ⟨u, rfl, rx⟩ := vals1 r
  cases rx
  have fin : ∀ (its : List Value), Vals ys its → ys.length ≤ sizeLine → ∀ (h' : Heap) (c' : Nat), (∀ b o', s.heap.get? b = some o' → h'.get? b = some o') →
      h'.get? s.heap.objs.size = some { cls := .type "list", dict := none, data := .seq its.toArray c', slots := #[] } → EP X pins σ Q (.ref s.heap.objs.size) { s with heap := h' } := fun its r' hz h' c' kp e =>
    ⟨.ref s.heap.objs.size, _, I.laid (t' := s.toks) kp (Nat.le_refl _) (show ObjOk X.prog X.w _ h' _ (.lst ys) from ⟨hz, its, c', r', e⟩), rfl, q _ (I.hok.fresh (Nat.le_refl _))⟩
  rcases hq with hq | hq
  · obtain ⟨its, r', pl, hz⟩ := I.list hq
    have hlen := r'.length
    obtain ⟨o, ho, hc, n, hd⟩ := pl.isList
    exact call_list_seq p (.inl rfl) ho hc hd (fun h' c' kp e => fin its r' hz h' c' kp e) (by simp only [List.size_toArray] <;> omega)
  · obtain ⟨its, r', pl, hz⟩ := I.tuple hq
    have hlen := r'.length
    obtain ⟨o, ho, hc, n, hd⟩ := pl
    exact call_list_seq p (.inr rfl) ho hc hd (fun h' c' kp e => fin its r' hz h' c' kp e) (by simp only [List.size_toArray] <;> omega)
def tyV (K : PySem.W.Frag) (T : String) (x : V) (H : Hp) : Prop := match x with
  | .str _ => T = "str"
  | .int _ => T = "int"
  | .ref p => (T = "list" ∧ ∃ xs, SqL K H p xs) ∨ (T = "tuple" ∧ ∃ o, K.lookup p = some o ∧ o.cls = .type "tuple" ∧ o.dict = none) ∨
      (T = "dict" ∧ ((∃ kvs, H p = some (.dK kvs)) ∨ ∃ kvs, H p = some (.dT kvs))) ∨ (T = "set" ∧ ∃ S n, H p = some (.set S n))
  | _ => False
theorem tyV_is {pins : List (Addr × Obj)} {σ : St} {H : Hp} {s : Shared} {T : String} {x : V} {v : Value} (I : Inv X pins σ H s) (r : RelV x v) (ty : tyV X.K T x H) :
    s.TypeIs v T ∧ ∀ a, v = .ref a → ∃ ob, s.heap.get? a = some ob ∧ ob.dict = none := by
  cases x with
  | str z =>
    obtain ⟨t, rfl⟩ := r
    cases (show T = "str" from ty)
    exact ⟨typeIs_str s z t, fun _ e => nomatch e⟩
  | int i =>
    obtain ⟨t, rfl⟩ := r
    cases (show T = "int" from ty)
    exact ⟨typeIs_int s i t, fun _ e => nomatch e⟩
  | ref p =>
    cases r
    rcases ty with ⟨rfl, xs, hq⟩ | ⟨rfl, o, hk, hc, hd⟩ | ⟨rfl, hk⟩ | ⟨rfl, S, n, hk⟩
    · obtain ⟨its, _, pl, _⟩ := I.list hq
      refine ⟨pl.isList.typeIs, fun a e => ?_⟩
      cases e
      obtain ⟨o, n, e, c, hd, _⟩ := pl
      exact ⟨o, e, hd⟩
    · refine ⟨⟨o, I.kIn p o hk, hc⟩, fun a e => ?_⟩
      cases e
      exact ⟨o, I.kIn _ o hk, hd⟩
    · have z : ∃ o, s.heap.get? p = some o ∧ o.ExactDict := by
        rcases hk with ⟨kvs, hk⟩ | ⟨kvs, hk⟩
        · obtain ⟨_, _, _, _, o, _, _, e, ex, _⟩ := I.hok p _ hk
          exact ⟨o, e, ex⟩
        · obtain ⟨_, _, _, _, o, _, _, e, ex, _⟩ := I.hok p _ hk
          exact ⟨o, e, ex⟩
      obtain ⟨o, e, ex⟩ := z
      refine ⟨⟨o, e, ex.1⟩, fun a e2 => ?_⟩
      cases e2
      exact ⟨o, e, ex.2.1⟩
    · obtain ⟨o, _, _, _, e, ex, _⟩ := I.hok p _ hk
      refine ⟨⟨o, e, ex.1⟩, fun a e2 => ?_⟩
      cases e2
      exact ⟨o, e, ex.2.1⟩
  | _ => exact False.elim ty
def tBM (K : PySem.W.Frag) (T : String) (r : V → List V → Hp → VK → Prop) (to : TE) (t : TA) : TE := fun σ H Q => to σ H fun x H1 => tyV K T x H1 ∧ t σ H1 fun xs H2 => r x xs H2 Q
variable {o e : Expr} {es : List Expr} {to : TE} {t : TA} {name : Str} {apos cpos : Pos} {T id : String} {r : V → List V → Hp → VK → Prop}
theorem pe_bm (pa : PlainAttrs T) (slot : Slot T name id) (hty : typeOf (.builtin id) = pure (.type "method_descriptor")) (hm : MtR X id r) (ho : PE X o to) (ha : PA X (e :: es) t)
    (hbase : attributeBase o name X.env (eval o X.env) = eval o X.env := by rfl)
    (hfew : ((backTo cpos (starEach (e :: es) X.env)).all (fun x => !x.1) && (backToKw cpos (keywordEach [] X.env)).all (fun x => x.1.isSome)
      && decide ((e :: es).length + ([] : List Keyword).length + (if ([] : List Keyword).isEmpty then 0 else 1) < 30)) = true := by rfl)
    (hline : (apos.endLine == cpos.line) = true := by rfl) (hs : starEach (e :: es) X.env = (false, eval e X.env) :: starEach es X.env := by rfl) (hplain : (backTo cpos (starEach es X.env)).any (·.1) = false := by rfl) :
    PE X (.Call (.Attribute o name apos) (e :: es) [] cpos) (tBM X.K T r to t) := by
  intro pins s σ H Q I h
  refine wpAny_Call_method_late hbase hfew hline rfl (thn (ho pins s σ H _ I h) fun v s1 ⟨x, H1, I1, r1, ty, q1⟩ => ?_)
  obtain ⟨h1, h2⟩ := tyV_is I1 r1 ty
  refine ⟨T, id, pa, slot, hty, h1, h2, ?_⟩
  have hA := ha cpos pins s1 σ H1 _ I1 q1
  rw [hs] at hA ⊢
  refine Calls.callWith_builtin (by show (false || (backTo cpos (starEach es X.env)).any (·.1)) = false; rw [hplain] <;> rfl) (Calls.evalArgs_plain ?_)
  exact thn hA fun us s2 ⟨vs, H2, I2, r2, q2⟩ => hm pins s2 σ H2 x vs v us Q I2 r1 r2 q2
end
end L2

namespace L2
open PySem PySem.Spec PyProof.Rows

def MtM (X : Cx) (id : String) (r : V → List V → Hp → VK → Prop) : Prop :=
  ∀ (pins : List (Addr × Obj)) (s : Shared) (σ : St) (H : Hp) (x : V) (xs : List V) (v : Value) (us : List Value) (Q : VK), Inv X pins σ H s → RelV x v → Vals xs us → r x xs H Q →
    wpAny (model X.prog X.w) X.A (call (.builtin id) (v :: us)) (EP X pins σ Q) X.xe s

theorem Vals.one : ∀ {x : V} {us : List Value}, Vals [x] us → ∃ u, us = [u] ∧ RelV x u
  | _, _, .cons r .nil => ⟨_, rfl, r⟩
theorem Vals.reverse {xs : List V} {us : List Value} (h : Vals xs us) : Vals xs.reverse us.reverse := by
  induction h with
  | nil => exact .nil
  | cons r t ih => rw [List.reverse_cons, List.reverse_cons]; exact Vals.append ih (.cons r .nil)
theorem Vals.rep {xs : List V} {us : List Value} (h : Vals xs us) : ∀ k : Nat, Vals (List.replicate k xs).flatten (List.replicate k us).flatten
  | 0 => .nil
  | k + 1 => by
    rw [List.replicate_succ, List.replicate_succ, List.flatten_cons, List.flatten_cons]
    exact Vals.append h (Vals.rep h k)
theorem foldl_rep (its : List Value) : ∀ (k : Nat) (acc : List Value),
    List.foldl (fun x1 x2 => x1 ++ x2) acc.toArray (List.replicate k its.toArray) = (acc ++ (List.replicate k its).flatten).toArray
  | 0, acc => by simp
  | k + 1, acc => by
    have e : acc.toArray ++ its.toArray = (acc ++ its).toArray := by simp
    have e2 : (acc ++ its) ++ (List.replicate k its).flatten = acc ++ (List.replicate (k + 1) its).flatten := by
      rw [List.replicate_succ, List.flatten_cons, List.append_assoc]
    rw [← e2, ← foldl_rep its k (acc ++ its), ← e, List.replicate_succ, List.foldl_cons]

section
variable {X : Cx} {pins : List (Addr × Obj)} {σ : St} {H : Hp} {s : Shared} {l b : Addr} {xs ys zs : List V}

theorem Inv.lset {its its' : List Value} {n : Nat} {f : Array Value → Array Value} {t' : Nat} (I : Inv X pins σ H s) (hH : H l = some (.lst xs))
    (e : s.heap.get? l = some { cls := .type "list", data := .seq its.toArray n }) (hf : f its.toArray = its'.toArray) (hv : Vals ys its') (hz : ys.length ≤ sizeLine) :
    Inv X pins σ (upd H l (.lst ys)) { s with heap := s.heap.update l (Obj.mapSeq f), toks := t' } := by
  have q := PySem.IsL.update e f
  rw [hf] at q
  refine I.write (x := l) (e := l) (by rw [hH]; exact trivial) (.inl rfl) (fun b' u hb hu => (Heap.get?_update_other s.heap (Obj.mapSeq f) (Ne.symm hb)).trans hu) ⟨_, q⟩ ?_
  exact ⟨hz, its', _, hv, q⟩
theorem Inv.lnew {its : List Value} {t' : Nat} (I : Inv X pins σ H s) (hv : Vals ys its) (hz : ys.length ≤ sizeLine) :
    Inv X pins σ (upd H s.heap.objs.size (.lst ys)) { s with heap := s.heap.push { cls := .type "list", data := .seq its.toArray }, toks := t' } :=
  I.laid (fun _ _ q => Heap.get?_push_of_some _ q) (Nat.le_refl _) ⟨hz, its, 0, hv, Heap.get?_push_size _ rfl⟩
theorem Inv.fresh (I : Inv X pins σ H s) : H s.heap.objs.size = none := I.hok.fresh (Nat.le_refl _)
theorem Inv.lstM (I : Inv X pins σ H s) (hH : H l = some (.lst xs)) : xs.length ≤ sizeLine ∧ ∃ (its : List Value) (n : Nat), Vals xs its ∧ xs.length = its.length ∧ s.heap.get? l = some { cls := .type "list", data := .seq its.toArray n } := by
  obtain ⟨z, its, n, r, e⟩ := I.hok l _ hH
  exact ⟨z, its, n, r, r.length, e⟩

theorem notLongL {n : Nat} (h : n ≤ sizeLine) : Builtin.List.listTooLong n = false := by
  unfold Builtin.List.listTooLong
  exact decide_eq_false (by omega)
end

section
variable {X : Cx}

def rAppend : V → List V → Hp → VK → Prop := fun x vs H Q => ∃ l xs y, x = .ref l ∧ vs = [y] ∧ H l = some (.lst xs) ∧ xs.length < sizeLine ∧ Q .non (upd H l (.lst (xs ++ [y])))
theorem mt_append : MtM X "list.append" rAppend := by
  intro pins s σ H x vs v us Q I rx rv h
  obtain ⟨l, xs, y, rfl, rfl, hH, hz, q⟩ := h
  cases rx
  obtain ⟨u, rfl, ru⟩ := rv.one
  obtain ⟨z, its, n, r, hl, e⟩ := I.lstM hH
  refine call_meets F.slot_list_append ⟨_, e, rfl⟩ F.entry_list_append (F.args_list_append_2 _ _) (PySem.list_append l its.toArray n u (by rw [List.size_toArray]; omega)) ⟨e, ?_⟩
  refine ⟨.non, _, I.lset (its' := its ++ [u]) hH e (by simp) (r.append (.cons ru .nil)) ?_, rfl, q⟩
  rw [List.length_append, List.length_singleton]
  omega

def rExtend : V → List V → Hp → VK → Prop := fun x vs H Q => ∃ l b xs zs, x = .ref l ∧ vs = [.ref b] ∧ H l = some (.lst xs) ∧ H b = some (.lst zs) ∧ xs.length + zs.length ≤ sizeLine ∧ Q .non (upd H l (.lst (xs ++ zs)))
theorem mt_extend : MtM X "list.extend" rExtend := by
  intro pins s σ H x vs v us Q I rx rv h
  obtain ⟨l, b, xs, zs, rfl, rfl, hH, hB, hz, q⟩ := h
  cases rx
  obtain ⟨u, rfl, ru⟩ := rv.one
  cases ru
  obtain ⟨z, its, n, r, hl, e⟩ := I.lstM hH
  obtain ⟨z2, its2, n2, r2, hl2, e2⟩ := I.lstM hB
  have hsz : its.toArray.size + its2.toArray.size ≤ sizeLine := by rw [List.size_toArray, List.size_toArray]; omega
  have hlong : ¬ (!its.toArray.isEmpty && Builtin.List.listTooLong (its.toArray.size + its2.toArray.size)) = true := by
    rw [notLongL hsz, Bool.and_false]
    exact Bool.false_ne_true
  refine call_meets F.slot_list_extend ⟨_, e, rfl⟩ F.entry_list_extend (F.args_list_extend_2 _ _)
    (AutoSeq1.list_extend_list_list_0 l its.toArray n b its2.toArray n2 hlong (by rw [List.size_toArray]; omega) (by omega)) ⟨e, e2, ?_⟩
  refine ⟨.non, _, I.lset (its' := its ++ its2) hH e (by simp) (r.append r2) ?_, rfl, q⟩
  rw [List.length_append]
  omega

def rCat : R2 := fun x y H Q => ∃ l b xs zs, x = .ref l ∧ y = .ref b ∧ H l = some (.lst xs) ∧ H b = some (.lst zs) ∧ xs.length + zs.length ≤ sizeLine ∧ ∀ p, H p = none → Q (.ref p) (upd H p (.lst (xs ++ zs)))
theorem op_cat : OpR X (binaryOp .Add) rCat := by
  intro pins s σ H x y v u Q I rx ry h
  obtain ⟨l, b, xs, zs, rfl, rfl, hH, hB, hz, q⟩ := h
  cases rx
  cases ry
  obtain ⟨z, its, n, r, hl, e⟩ := I.lstM hH
  obtain ⟨z2, its2, n2, r2, hl2, e2⟩ := I.lstM hB
  refine PySem.P.add_list e e2 ?_ (by rw [List.size_toArray, List.size_toArray]; omega)
  have ea : its.toArray ++ its2.toArray = (its ++ its2).toArray := by simp
  rw [ea]
  exact ⟨.ref _, _, I.lnew (t' := s.toks) (r.append r2) (by rw [List.length_append]; omega), rfl, q _ I.fresh⟩
def rRep : R2 := fun x y H Q => ∃ l k xs, x = .ref l ∧ y = .int k ∧ H l = some (.lst xs) ∧ -(2 ^ 63) ≤ k ∧ k < 2 ^ 63 ∧ xs.length * k.toNat ≤ sizeLine ∧
  ∀ p, H p = none → Q (.ref p) (upd H p (.lst (List.replicate k.toNat xs).flatten))
theorem len_rep {α : Type} (xs : List α) (k : Nat) : (List.replicate k xs).flatten.length = k * xs.length := by
  induction k with
  | zero => simp
  | succ k ih => rw [List.replicate_succ, List.flatten_cons, List.length_append, ih, Nat.succ_mul, Nat.add_comm]
theorem op_rep : OpR X (binaryOp .Mult) rRep := by
  intro pins s σ H x y v u Q I rx ry h
  obtain ⟨l, k, xs, rfl, rfl, hH, h1, h2, hz, q⟩ := h
  cases rx
  obtain ⟨t, rfl⟩ := ry
  obtain ⟨z, its, n, r, hl, e⟩ := I.lstM hH
  have hlen : its.toArray.size * k.toNat ≤ sizeLine := by rw [List.size_toArray, ← hl]; exact hz
  have hcap : ¬ its.toArray.size * k.toNat > (2 ^ 63 - 1) / 8 := by
    have : (sizeLine : Nat) ≤ (2 ^ 63 - 1) / 8 := by decide
    omega
  have hfit : ¬ (!Builtin.List.listFitsIndex k) = true := by
    rw [fitsIndex_both h1 h2]
    exact Bool.false_ne_true
  have hlong : ¬ Builtin.List.listTooLong (its.toArray.size * k.toNat) = true := by
    rw [notLongL hlen]
    exact Bool.false_ne_true
  have hnew : List.foldl (fun x1 x2 => x1 ++ x2) #[] (List.replicate (if its.toArray.isEmpty = true then 0 else k.toNat) its.toArray) = (List.replicate k.toNat its).flatten.toArray := by
    have f0 : ∀ m : Nat, List.foldl (fun x1 x2 => x1 ++ x2) #[] (List.replicate m its.toArray) = (List.replicate m its).flatten.toArray := fun m => by
      have := foldl_rep its m []
      rw [List.nil_append] at this
      exact this
    rw [f0]
    cases its with
    | nil => simp
    | cons a r' => rw [if_neg (by simp)]
  refine wpAny_binaryOp_repeat_ref (T := "list") (U := "int") (by decide) ⟨_, e, rfl⟩ (fun s' => typeIs_int s' k t) noFill_list_mul F.fills_int_mul F.slot_int_rmul repeat_list F.slot_int_index.lookup
    (call_meets F.slot_int_rmul (typeIs_int s k t) F.entry_int_rmul (F.args_int_rmul_2 _ _) (int___rmul___int_list k t l its.toArray n)
      ⟨e, rfl, ⟨_, e, rfl⟩, call_meets F.slot_list_mul ⟨_, e, rfl⟩ F.entry_list_mul (F.args_list_mul_2 _ _) (AutoListH.list___mul___list_int_3 l its.toArray n k t hfit hcap hlong) ⟨e, ?_⟩⟩)
  rw [hnew]
  exact ⟨.ref _, _, I.lnew (t' := s.toks) (r.rep k.toNat) (by rw [len_rep, Nat.mul_comm]; exact hz), rfl, q _ I.fresh⟩

end

section
variable {prog : Program} {w : World} {A : Around} {E : Value → Shared → Prop} {s : Shared}
end

section
variable {X : Cx}
end
end L2

namespace Att
open PySem PySem.W PySem.Calls PyProof.Rows

theorem ints_of_wellAll {P : Params} {h : Heap} : ∀ (ns : List Int) (vs : List Value), WellAll P h vs (ns.map WData.int) → IntsAre vs ns := by
  intro ns
  induction ns with
  | nil =>
    intro vs w
    rw [List.map_nil] at w
    cases w
    exact .nil
  | cons n ns ih =>
    intro vs w
    rw [List.map_cons] at w
    cases w with
    | cons a b =>
      cases a
      exact .cons _ _ (ih _ b)

theorem script_of {l : OpenLaw} {n : Nat} (hn : l.most = some n) {P : Params} {h : Heap} {args : List WData} {vals : List Value}
    (hpre : l.row.toRowW.claim.pre args = true) (hwl : WellAll P h vals args) :
    ∃ a vs ns, vals = [Value.ref a] ∧ args = [WData.list (ns.map WData.int)] ∧ h.get? a = some { cls := .type "list", data := .seq vs.toArray } ∧ IntsAre vs ns ∧ ns.length ≤ n := by
  have hsh : WShape.hasAll [] args [.list .int] = true := (pre_splitW hpre).1
  have hc : l.pre.holds [] { args := args } = true := (pre_splitW hpre).2
  obtain ⟨d, r, rfl, h1, h2⟩ := hasAllW_cons hsh
  obtain rfl := hasAllW_nil h2
  obtain ⟨xs, rfl, h3⟩ := hasW_list h1
  obtain ⟨ns, rfl⟩ := items_int h3
  have hlen : ns.length ≤ n := by
    unfold OpenLaw.pre at hc
    have h4 : (WTm.not (.lt (.lit (.int (n : Int))) (.len (.arg 0)))).holds [] { args := [.list (ns.map .int)] } = true := by
      have h4 := (holds_andW hc).1
      rw [hn] at h4
      exact h4
    have h5 := condW_of h4 (w_not (w_lt w_lit (w_len_list (w_arg rfl))))
    rw [List.length_map] at h5
    refine Nat.le_of_not_lt fun q => ?_
    have q' : (n : Int) < ((ns.length : Nat) : Int) := by omega
    first
      | (rw [decide_eq_true q'] at h5; exact absurd h5 (by decide))
      | (simp at h5; omega)
  cases hwl with
  | cons w1 w2 =>
    cases w2
    cases w1 with
    | list ho hall => exact ⟨_, _, ns, rfl, rfl, ho, ints_of_wellAll ns _ hall, hlen⟩

theorem post_true (l : OpenLaw) (args : List WData) : l.row.toRowW.claim.post args (.bool true) args = true :=
  postW_of (r := l.row.toRowW) (X := (true == true))
    (show WShape.has [] (.bool true) .bool = true by first | rfl | decide | simp [WShape.has, WShape.arms, WShape.armsAll])
    (show (WTm.eq .res (.lit (.bool true))).value [] { args := args, res := some (.bool true), after := args } = some (.bool (true == true)) from w_eq_bool (w_res rfl) w_lit) rfl

theorem attach_call {l : OpenLaw} {n : Nat} {q : Program} {loose : List Str} {XP : (Str → Option Value) → Heap → Prop} {YP : World → Heap → Prop} {d : DefRec}
    (hn : l.most = some n) (hdf : d.params.defaults = [])
    (call : ∀ (w : World) (s₀ s₁ : Shared) (mg mb : Str → Option Value) (fa : Addr) (o : Obj) (pm cd doc : Value) (a : Addr) (vs : List Value) (ns : List Int),
      Ground q loose [] XP w s₀ mg mb s₁.heap → YP w s₁.heap →
      s₁.heap.get? fa = some o → o.data = .func (docDef d.name d.params d.body d.scope pm cd doc) → s₁.heap.CodeRec cd d.name → mg d.name = some (.ref fa) →
      s₁.heap.get? a = some { cls := .type "list", data := .seq vs.toArray } → IntsAre vs ns → ns.length ≤ n → s₁.gens = #[] →
      codeAny (model l.prog w) callerA (.call (.ref fa) ⟨[.ref a], []⟩) (fun r s' => r = .ok (.ret (.bool true)) ∧ OldK s₁.heap s'.heap ∧ s'.os = s₁.os ∧ AllBare s'.gens) s₁) :
    WalkO q loose XP YP l.row.toRowW d [] (fun f vs => PySem.call f vs) := by
  intro w s₀ s₁ mg mb G Y fa o pm cd doc dV kV ho hd hcd hD hmg hg args vals as hpre hlay hrd hwl hlo
  obtain rfl : dV = .none := Dflts.none hD hdf
  obtain rfl : kV = .none := Dflts.noKw hD
  obtain ⟨a, vs, ns, rfl, rfl, hobj, hints, hlen⟩ := script_of hn hpre hwl
  refine enter_call (codeAny_mono (call w s₀ s₁ mg mb fa o pm cd doc a vs ns G Y ho (fd_plain hd) hcd hmg hobj hints hlen hg) fun r s' hq => ?_)
  obtain ⟨rfl, h2, h3, h4⟩ := hq
  exact ⟨.inl ⟨.bool true, .bool true, [], rfl, fun _ => rfl, .bool true, post_true l _, fun _ => ⟨List.Pairwise.nil, fun _ hm => (nomatch hm)⟩⟩, h2, h3, h4⟩

section
variable {prog : Program} {w : World} {A : Around} {E : Value → Shared → Prop} {s : Shared} {K : Frag}

end
end Att

namespace L2
open PySem PySem.Spec PyProof.Rows

theorem vals_ints : ∀ {vs : List Value} {ns : List Int}, IntsAre vs ns → Vals (ns.map V.int) vs
  | _, _, .nil => .nil
  | _, _, .cons n t h => .cons ⟨t, rfl⟩ (vals_ints h)

def Only (H : Hp) : Prop := ∀ b, H b = none ∨ ∃ o xs, H b = some (.frz o (.lst xs))

theorem law_call {P : Program} {w : World} {K : PySem.W.Frag} {mg mb : Str → Option Value} {CX : CXT} {k : Nat} {fa a : Addr} {fd : FuncData} {x : Str} {sp : Sp} {s₁ : Shared} {vs : List Value} {ns : List Int}
    (KX : K.In s₁.heap) (hns : s₁.heap.Ns mainGlobals mg) (hb : s₁.heap.Ns builtinsNs mb) (hbb : ∀ x : Str, x ≠ "__name__" → mb x = bootBuiltins x) (hlim : s₁.heap.NoLimit) (hg : s₁.gens = #[])
    (ha : s₁.heap.get? a = some { cls := .type "list", data := .seq vs.toArray }) (hi : IntsAre vs ns) (hl : ns.length ≤ sizeLine) (hr : Room k callerA)
    (F : ∀ base : Heap, K.In base → base.Ns mainGlobals mg → FnOk P w K mg base CX k fa fd [x] sp) (hbind : ∀ (s : Shared) (u : Value), BindsTo s fd ⟨[u], []⟩ [(x, u)])
    (hsp : ∀ H : Hp, Only H → SqL K H a (ns.map V.int) → sp [.ref a] H (fun v _ => v = .bl true) fun _ _ _ => False)
    (hCX : ∀ H e s', CX [] H s₁ (fun _ _ _ => False) e s' → False) :
    codeAny (model P w) callerA (.call (.ref fa) ⟨[.ref a], []⟩) (fun r s' => r = .ok (.ret (.bool true)) ∧ OldK s₁.heap s'.heap ∧ s'.os = s₁.os ∧ AllBare s'.gens) s₁ := by
  have rv := vals_ints hi
  have lenV := hi.length
  -- from an abstract heap in which nothing but the script may be tracked
  have core : ∀ H : Hp, Only H → SqL K H a (ns.map V.int) → HOk P w H s₁.heap → (∀ b, H b ≠ none → b = a) → (H a ≠ none → K.lookup a = none) →
      codeAny (model P w) callerA (.call (.ref fa) ⟨[.ref a], []⟩) (fun r s' => r = .ok (.ret (.bool true)) ∧ OldK s₁.heap s'.heap ∧ s'.os = s₁.os ∧ AllBare s'.gens) s₁ := by
    intro H hO hS hok hA hK
    have base_of : ∀ {b : Addr} {o : Obj}, s₁.heap.get? b = some o → H b = none → (hidT s₁.heap H).get? b = some o := fun e n => hidT_get e n
    have noA : ∀ {b : Addr} {o : Obj} {es : Array DictEntry} {ep : Nat}, s₁.heap.get? b = some o → o.data = .dict es ep → H b = none := fun {b o es ep} e d => by
      cases q : H b with
      | none => rfl
      | some u =>
        have e' : b = a := hA b (by rw [q]; simp)
        subst e'
        rw [ha] at e; cases e
        have d' : Data.seq vs.toArray _ = Data.dict es ep := d
        cases d'
    have nsK : ∀ {b : Addr} {m : Str → Option Value}, s₁.heap.Ns b m → (hidT s₁.heap H).Ns b m := fun {b m} ⟨o, es, ep, e, d, r⟩ => ⟨o, es, ep, base_of e (noA e d), d, r⟩
    have hKb : K.In (hidT s₁.heap H) := fun b o e => base_of (KX b o e) (by
      cases q : H b with
      | none => rfl
      | some u =>
        have e' : b = a := hA b (by rw [q]; simp)
        subst e'
        rw [hK (by rw [q]; simp)] at e; cases e)
    have hM : Mod K mg (hidT s₁.heap H) := ⟨hKb, nsK hns, ⟨mb, nsK hb, hbb⟩, let ⟨mc, h1, h2⟩ := hlim; ⟨mc, nsK h1, h2⟩⟩
    have e0 : Env0 P w K mg (hidT s₁.heap H) callerA [] s₁ H := ⟨rfl, hM, fun b o e => of_hidT e, Nat.le_of_eq (hidT_size _ _), trivial, fun b hb => absurd (show b ∈ ([] : List Addr) from hb) (by simp), hok, .of_eq hg⟩
    refine codeAny_mono ((F _ hKb (nsK hns)).run callerA [] s₁ H ⟨[.ref a], []⟩ [.ref a] [.ref a] _ _ hr e0 (hbind s₁ (.ref a)) (.cons rfl .nil) (hsp H hO hS)) fun r s' h => ?_
    cases r with
    | error e => exact (hCX H e s' h).elim
    | ok fl =>
      cases fl with
      | next => exact False.elim h
      | brk => exact False.elim h
      | cont => exact False.elim h
      | ret u =>
        obtain ⟨v, H', os, bare, un, hok', r', q⟩ := h
        have q' : v = .bl true := q
        subst q'
        obtain rfl : u = Value.bool true := r'
        refine ⟨rfl, OldK.of_keep fun b o e => ?_, os, bare⟩
        cases q : H b with
        | none => exact un.keep b o e q (by intro z; exact absurd (show b ∈ ([] : List Addr) from z) (by simp)) (by simp)
        | some u =>
          rcases hO b with z | ⟨ob, xs, z⟩
          · rw [q] at z; cases z
          · have z2 := un.frzs b ob _ z
            obtain ⟨e1, _⟩ := hok b _ z
            obtain ⟨e2, _⟩ := hok' b _ z2
            rw [e] at e1; cases e1
            exact e2
  cases hk : K.lookup a with
  | some o =>
    -- the script is one of the module's own objects
    have e := KX a o hk
    rw [ha] at e
    cases e
    refine core (fun _ => none) (fun _ => .inl rfl) (.inr ⟨_, vs.toArray, _, hk, rfl, rfl, rfl, by rw [List.size_toArray, lenV]; exact hl, by simpa using rv⟩) (fun b u z => by have z' : (none : Option HO) = some u := z; cases z') (fun b z => absurd rfl z) fun z => absurd rfl z
  | none =>
    refine core (fun b => if b = a then some (.frz { cls := .type "list", data := .seq vs.toArray } (.lst (ns.map V.int))) else none) (fun b => ?_) (.inl (.inr ⟨{ cls := .type "list", data := .seq vs.toArray }, if_pos rfl⟩)) (fun b u z => ?_) (fun b z => ?_) fun _ => hk
    · by_cases hb : b = a
      · exact .inr ⟨_, _, if_pos hb⟩
      · exact .inl (if_neg hb)
    · by_cases hb : b = a
      · have z' := (if_pos hb).symm.trans z
        cases z'
        subst hb
        exact ⟨ha, by rw [List.length_map]; exact hl, vs, _, rv, ha⟩
      · have z' := (if_neg hb).symm.trans z
        cases z'
    · by_cases hb : b = a
      · exact hb
      · exact absurd (if_neg hb) z
end L2

namespace L2
open PySem PySem.Spec PyProof.Rows

theorem walk_of {l : PySem.W.OpenLaw} {n k : Nat} {q : Program} {loose : List Str} {XP : (Str → Option Value) → Heap → Prop} {YP : World → Heap → Prop} {d : DefRec} {K : Params → PySem.W.Frag} {CX : World → CXT} {sp : World → Sp} {x : Str}
    (hn : l.most = some n) (hn2 : n ≤ sizeLine) (hdf : d.params.defaults = []) (hr : Room k callerA)
    (hY : ∀ (w : World) (h : Heap), YP w h → (K w.params).In h)
    (F : ∀ (w : World) (mg : Str → Option Value) (fa : Addr) (h : Heap), (K w.params).In h → h.Ns mainGlobals mg → mg d.name = some (.ref fa) →
      ∃ fd : FuncData, (∀ (s : Shared) (u : Value), BindsTo s fd ⟨[u], []⟩ [(x, u)]) ∧
        ∀ base : Heap, (K w.params).In base → base.Ns mainGlobals mg → FnOk l.prog w (K w.params) mg base (CX w) k fa fd [x] (sp w))
    (hsp : ∀ (w : World) (H : Hp) (a : Addr) (ns : List Int), ns.length ≤ n → Only H → SqL (K w.params) H a (ns.map V.int) → sp w [.ref a] H (fun v _ => v = .bl true) fun _ _ _ => False)
    (hCX : ∀ (w : World) (H : Hp) (s : Shared) (e : Value) (s' : Shared), CX w [] H s (fun _ _ _ => False) e s' → False) :
    PySem.W.WalkO q loose XP YP l.row.toRowW d [] (fun f vs => PySem.call f vs) := by
  refine Att.attach_call hn hdf fun w s₀ s₁ mg mb fa o pm cd doc a vs ns G Y ho hd hcd hmg hobj hints hlen hg => ?_
  have KX := hY w _ Y
  obtain ⟨fd, hb, hF⟩ := F w mg fa _ KX G.T.g hmg
  exact law_call KX G.T.g G.T.b G.T.builtins G.T.nolimit hg hobj hints (Nat.le_trans hlen hn2) hr hF hb (fun H hO hS => hsp w H a ns hlen hO hS) fun H e s' => hCX w H s₁ e s'
end L2

namespace L2
open PySem PySem.Spec PyProof.Rows

def defArgs (s : Stmt) : Arguments := match s with
  | .FunctionDef _ a _ _ _ _ _ _ _ _ => a
  | _ => { posonlyargs := [], args := [], vararg := none, kwonlyargs := [], kw_defaults := [], kwarg := none, defaults := [] }
def defBody (s : Stmt) : List Stmt := match s with
  | .FunctionDef _ _ b _ _ _ _ _ _ _ => b
  | _ => []
def defScope (s : Stmt) : Scope := match s with
  | .FunctionDef _ _ _ _ _ _ sc _ _ _ => sc
  | _ => { kind := .function, names := [], isGenerator := false, isCoroutine := false }

abbrev CX0 : CXT := fun _ _ _ _ _ _ => False
abbrev E0 : XK := fun _ _ _ => False
theorem pass0 {X : Cx} : Passes CX0 X E0 := fun _ _ _ _ _ _ _ h => h.elim

structure Fun (K : PySem.W.Frag) (x qual : Str) (st : Stmt) (f : Addr) (fd : FuncData) : Prop where
  ex : ∃ (oc : Value) (od : Option Addr) (kV doc pm : Value) (an : Option Addr) (cdv ct : Value) (osl : Array (Option Value)),
    fd = PySem.W.fnOf x qual (defArgs st) (defBody st) (defScope st) .none kV doc pm an cdv ct ∧ K.lookup f = some ⟨oc, od, .func fd, osl⟩ ∧ PySem.W.codeIn K cdv qual = true
  kp : PySem.W.keepIn K (.ref f) = true
section
variable {P : Program} {w : World} {K : PySem.W.Frag} {mg : Str → Option Value} {base : Heap}
theorem Fun.ok {x qual : Str} {st : Stmt} {f : Addr} {fd : FuncData} {N ps : List Str} {k : Nat} {sp : Sp} (F : Fun K x qual st f fd) (S : FnScope N ps (defScope st)) (len : ∀ vs H Q E, sp vs H Q E → vs.length = ps.length)
    (hbody : ∀ (cdv : Value) (A : Around) (outer : List Env) (s : Shared) (H : Hp) (vs : List V) (Q : VK) (E : XK), Room k (A.deeper (envOfC qual (defScope st) s.heap.objs.size f cdv)) → sp vs H Q E →
      ∃ t, PSs (cxOf CX0 P w K mg base N qual (defScope st) f cdv A outer s H E).nox (defBody st) t ∧ t { nx := fun _ H' => Q .non H', rt := Q } (start N vs) H) : FnOk P w K mg base CX0 (k + 1) f fd ps sp := by
  obtain ⟨oc, od, kV, doc, pm, an, cdv, ct, osl, rfl, lk, hcd⟩ := F.ex
  refine fn_of lk hcd S len fun A outer s H vs Q E hr hsp => ?_
  obtain ⟨t, h, q⟩ := hbody cdv A outer s H vs Q E hr hsp
  exact ⟨t, h.nox, q⟩
theorem Fun.binds {x qual : Str} {st : Stmt} {f : Addr} {fd : FuncData} {ps : List Str} (F : Fun K x qual st f fd)
    (h : ∀ (kV doc pm : Value) (an : Option Addr) (cdv ct : Value) (us : List Value), us.length = ps.length → bindArgs (PySem.W.fnOf x qual (defArgs st) (defBody st) (defScope st) .none kV doc pm an cdv ct) ⟨us, []⟩ = pure (ps.zip us)) : Binds K fd ps [] := by
  obtain ⟨oc, od, kV, doc, pm, an, cdv, ct, osl, rfl, lk, hcd⟩ := F.ex
  exact .all (h kV doc pm an cdv ct)
theorem fun_mk {x qual : Str} {st : Stmt} {f : Addr} {oc : Value} {od an : Option Addr} {osl : Array (Option Value)} {kV doc pm cdv ct : Value} (l : K.lookup f = some ⟨oc, od, .func (PySem.W.fnOf x qual (defArgs st) (defBody st) (defScope st) .none kV doc pm an cdv ct), osl⟩)
    (c : PySem.W.codeIn K cdv qual = true) (k : PySem.W.keepIn K (.ref f) = true) : Fun K x qual st f (PySem.W.fnOf x qual (defArgs st) (defBody st) (defScope st) .none kV doc pm an cdv ct) := ⟨⟨oc, od, kV, doc, pm, an, cdv, ct, osl, rfl, l, c⟩, k⟩
end
theorem small1000 {n : Nat} (h : n ≤ 1000) : n < sizeLine := Nat.lt_of_le_of_lt h (by decide)

section
variable {X : Cx}
theorem pv (i : Nat) {x : Str} {pos : Pos} (hN : X.N[i]? = some x := by rfl) (hv : Vis X.env.scope x := by first | exact Or.inl rfl | exact Or.inr (Or.inl rfl) | exact Or.inr (Or.inr rfl)) (hd : (x == ("__debug__" : Str)) = false := by decide)
    (hcd : (x == ("__classdict__" : Str)) = false := by decide) : PE X (.Name x pos) (tVar i) := pe_var hN hv hd hcd
end

theorem iteF {A B : Prop} (h : B) : if false = true then A else B := by
  rw [if_neg Bool.false_ne_true]
  exact h
theorem iteT {A B : Prop} (h : A) : if true = true then A else B := by
  rw [if_pos rfl]
  exact h
theorem ite2 {c A B : Prop} [Decidable c] (h1 : c → A) (h2 : ¬ c → B) : if c then A else B := by
  by_cases h : c
  · rw [if_pos h]
    exact h1 h
  · rw [if_neg h]
    exact h2 h
theorem iteNS {c A B : Prop} [Decidable c] (hc : c) (h : B) : if (!decide c) = true then A else B := by
  rw [decide_eq_true hc]
  exact iteF h

def Same (H H' : Hp) : Prop := ∀ b o, H b = some o → H' b = some o
theorem Same.trans {H H1 H2 : Hp} (a : Same H H1) (b : Same H1 H2) : Same H H2 := fun c o h => b c o (a c o h)
theorem Same.free {H H' : Hp} (e : Same H H') {l : Addr} (h : H' l = Option.none) : H l = Option.none := by
  cases q : H l with
  | none => rfl
  | some o =>
    rw [e l o q] at h
    cases h
theorem Same.seq {K : PySem.W.Frag} {H H' : Hp} {a : Addr} {xs : List V} (e : Same H H') (h : SqL K H a xs) : SqL K H' a xs := by
  rcases h with (h | ⟨o, h⟩) | h
  · exact .inl (.inl (e _ _ h))
  · exact .inl (.inr ⟨o, e _ _ h⟩)
  · exact .inr h

end L2

set_option Elab.async false
set_option linter.all false
set_option maxRecDepth 100000
set_option maxHeartbeats 4000000
namespace L3
open PySem PySem.Spec PyProof.Rows L2
abbrev St := L2.St

theorem same_new {H : Hp} {p : Addr} (h : H p = none) (o : HO) : Same H (upd H p o) := fun b u q => by rw [upd_ne (ne_of_none q h)]; exact q
section
variable {X : Cx}

def tMid (t : TS) : TS := fun D σ H => ∃ mid : St → Hp → Prop, t { D with nx := mid } σ H ∧ ∀ σ' H', mid σ' H' → D.nx σ' H'
theorem ps_mid {st : Stmt} {t : TS} (h : PS X st t) : PS X st (tMid t) := by
  intro pins s σ H D I hq
  obtain ⟨mid, ht, hm⟩ := hq
  refine thn (h pins s σ H _ I ht) fun f s' q => ?_
  cases f with
  | next => obtain ⟨σ', H', I', q⟩ := q; exact ⟨σ', H', I', hm _ _ q⟩
  | brk => exact q
  | cont => exact q
  | ret v => exact q

theorem pe_rev {e k : Expr} {te tk : TE} {p2 pos : Pos} (he : PE X e te) (hk : PE X k tk) : PE X (.Subscript e (.Slice none none (some k) p2) pos)
    (fun σ H Q => te σ H fun x H1 => tk σ H1 fun y H2 => ∃ a xs, y = .int (-1) ∧ x = .ref a ∧ SqL X.K H2 a xs ∧ ∀ p, H2 p = none → Q (.ref p) (upd H2 p (.lst xs.reverse))) := by
  intro pins s σ H Q I h
  refine Subscript_ (thn (he pins s σ H _ I h) fun v s1 ⟨x, H1, I1, r1, q1⟩ => ?_)
  refine wpAny_Slice ?_
  rw [evalPart_none]
  refine wpAny_pure (wpAny_pure ?_)
  rw [evalPart_some]
  refine thn (hk pins s1 σ H1 _ I1 q1) fun vk s2 ⟨y, H2, I2, r2, q2⟩ => ?_
  obtain ⟨a, xs, rfl, rfl, hq, q⟩ := q2
  cases r1
  obtain ⟨t, rfl⟩ := r2
  have I3 : Inv X pins σ H2 { s2 with heap := s2.heap.push { cls := .type "slice", data := .fields #[.none, .none, .int (-1) t] } } := I2.kept (t' := s2.toks) fun b ob z => Heap.get?_push_of_some _ z
  obtain ⟨its, r, ht, hz⟩ := I3.list hq
  have hlen := r.length
  show wpAny (model X.prog X.w) X.A (subscriptTail e (.Slice none none (some k) p2) (.ref a) (.ref s2.heap.objs.size)) (EP X pins σ Q) X.xe { s2 with heap := s2.heap.push { cls := .type "slice", data := .fields #[.none, .none, .int (-1) t] } }
  refine tail_any (ops := [.ref a, .ref s2.heap.objs.size]) ht.isList.typeIs slot_list_getitem.lookup ?_ (by with_unfolding_all rfl)
  refine wpAny_getItem_list_slice ht.isList (Heap.IsSliceOf.new ..) .none .none (.int (-1) t) (by decide) ?_ (by rw [List.size_toArray] <;> omega)
  rw [PySem.W.krv_pick]
  refine ⟨.ref _, _, I3.laid (t' := s2.toks) (o := .lst xs.reverse) (fun b ob z => Heap.get?_push_of_some _ z) (Nat.le_refl _) ?_, rfl, q _ (I3.hok.fresh (Nat.le_refl _))⟩
  refine ⟨by rw [List.length_reverse]; exact hz, its.reverse, 0, r.reverse, ?_⟩
  exact Heap.get?_push_size _ rfl

theorem call_isinst : CallR X (.builtin "isinstance") (fun xs H Q => ∃ x n t b, xs = [x, .ty n] ∧ TyOf X.K H x t ∧ PySem.W.kitOne X.K t (.type n) = some b ∧ Q (.bl b) H) := by
  intro pins s σ H xs us Q I r h
  obtain ⟨x, n, t, b, rfl, ty, e, q⟩ := h
  obtain ⟨u, v, rfl, rx, ry⟩ := vals2 r
  cases ry
  exact isinst_ok I rx ty e fun tk => ⟨.bl b, H, I.tok tk, rfl, q⟩

mutual
def RdD (K : PySem.W.Frag) (H : Hp) : V → PyData → Prop
  | x, .none => x = .non
  | x, .bool b => x = .bl b
  | x, .int i => x = .int i
  | x, .str z => x = .str z
  | x, .list ds => ∃ a xs, x = .ref a ∧ SqL K H a xs ∧ RdDs K H xs ds
  | x, .tuple ds => ∃ a xs, x = .ref a ∧ SqT K H a xs ∧ RdDs K H xs ds
  | _, .dict _ => False
def RdDs (K : PySem.W.Frag) (H : Hp) : List V → List PyData → Prop
  | [], [] => True
  | x :: xs, d :: ds => RdD K H x d ∧ RdDs K H xs ds
  | [], _ :: _ => False
  | _ :: _, [] => False
end
mutual
theorem reads_of {pins : List (Addr × Obj)} {σ : St} {H : Hp} {s : Shared} (I : Inv X pins σ H s) : ∀ (d : PyData) (x : V) (v : Value), RelV x v → RdD X.K H x d → ∃ as, Reads s.heap v d as
  | .none, x, v, r, h => by
    rw [RdD] at h; subst h; cases r; exact ⟨_, .none⟩
  | .bool b, x, v, r, h => by
    rw [RdD] at h; subst h; cases r; exact ⟨_, .bool b⟩
  | .int i, x, v, r, h => by
    rw [RdD] at h; subst h; obtain ⟨t, rfl⟩ := r; exact ⟨_, .int i t⟩
  | .str z, x, v, r, h => by
    rw [RdD] at h; subst h; obtain ⟨t, rfl⟩ := r; exact ⟨_, .str z t⟩
  | .list ds, x, v, r, h => by
    rw [RdD] at h
    obtain ⟨a, xs, rfl, hq, hs⟩ := h
    cases r
    obtain ⟨its, rv, p, hz⟩ := I.list hq
    obtain ⟨o, ho, hc, n, hd⟩ := p.isList
    obtain ⟨as, ra⟩ := readsAll_of I ds xs its rv hs
    exact ⟨_, .list ho hc hd (by simpa using ra)⟩
  | .tuple ds, x, v, r, h => by
    rw [RdD] at h
    obtain ⟨a, xs, rfl, hq, hs⟩ := h
    cases r
    obtain ⟨its, rv, p, hz⟩ := I.tuple hq
    obtain ⟨o, ho, hc, n, hd⟩ := p
    obtain ⟨as, ra⟩ := readsAll_of I ds xs its rv hs
    exact ⟨_, .tuple ho hc hd (by simpa using ra)⟩
  | .dict _, x, v, r, h => by rw [RdD] at h; exact h.elim
theorem readsAll_of {pins : List (Addr × Obj)} {σ : St} {H : Hp} {s : Shared} (I : Inv X pins σ H s) : ∀ (ds : List PyData) (xs : List V) (us : List Value), Vals xs us → RdDs X.K H xs ds → ∃ as, ReadsAll s.heap us ds as
  | [], xs, us, r, h => by
    cases r with
    | nil => exact ⟨_, .nil⟩
    | cons r rr => rw [RdDs] at h; exact h.elim
  | d :: ds, xs, us, r, h => by
    cases r with
    | nil => rw [RdDs] at h; exact h.elim
    | cons r rr =>
      rw [RdDs] at h
      obtain ⟨a1, h1⟩ := reads_of I d _ _ r h.1
      obtain ⟨a2, h2⟩ := readsAll_of I ds _ _ rr h.2
      exact ⟨_, .cons h1 h2⟩
end
def rEqD (K : PySem.W.Frag) : R2 := fun x y H Q => ∃ dx dy, RdD K H x dx ∧ RdD K H y dy ∧ dx.canLay0 = true ∧ dy.canLay0 = true ∧ min dx.depth dy.depth ≤ 60 ∧ Q (.bl (PyData.eqv dx dy)) H
def rNeD (K : PySem.W.Frag) : R2 := fun x y H Q => ∃ dx dy, RdD K H x dx ∧ RdD K H y dy ∧ dx.canLay0 = true ∧ dy.canLay0 = true ∧ min dx.depth dy.depth ≤ 60 ∧ Q (.bl (!PyData.eqv dx dy)) H
theorem op_eqD (hu : X.A.units + 64 < cLine) : OpR X (compareOp .Eq) (rEqD X.K) := by
  intro pins s σ H x y v u Q I rx ry h
  obtain ⟨dx, dy, h1, h2, c1, c2, hd, q⟩ := h
  obtain ⟨as, ra⟩ := reads_of I dx x v rx h1
  obtain ⟨bs, rb⟩ := reads_of I dy y u ry h2
  exact SeqAt.compareEq_reads ra rb c1 c2 (by omega) ⟨.bl _, H, I, rfl, q⟩
theorem op_neD (hu : X.A.units + 64 < cLine) : OpR X (compareOp .NotEq) (rNeD X.K) := by
  intro pins s σ H x y v u Q I rx ry h
  obtain ⟨dx, dy, h1, h2, c1, c2, hd, q⟩ := h
  obtain ⟨as, ra⟩ := reads_of I dx x v rx h1
  obtain ⟨bs, rb⟩ := reads_of I dy y u ry h2
  exact SeqAt.compareNe_reads ra rb c1 c2 (by omega) ⟨.bl _, H, I, rfl, q⟩
end

theorem rd_ints {K : PySem.W.Frag} {H : Hp} : ∀ ns : List Int, RdDs K H (ns.map V.int) (ns.map PyData.int)
  | [] => by rw [List.map_nil, List.map_nil, RdDs]; trivial
  | n :: r => by
    rw [List.map_cons, List.map_cons, RdDs, RdD]
    exact ⟨rfl, rd_ints r⟩
theorem rd_list {K : PySem.W.Frag} {H : Hp} {a : Addr} {ns : List Int} (h : SqL K H a (ns.map V.int)) : RdD K H (.ref a) (.list (ns.map PyData.int)) := by
  rw [RdD]
  exact ⟨a, _, rfl, h, rd_ints ns⟩
theorem lay_ints : ∀ ns : List Int, PyData.canLayAll0 (ns.map PyData.int) = true
  | [] => rfl
  | n :: r => by
    rw [List.map_cons, PyData.canLayAll0, PyData.canLay0, lay_ints r]; rfl
theorem depth_ints : ∀ ns : List Int, PyData.depthAll (ns.map PyData.int) = 0
  | [] => rfl
  | n :: r => by
    rw [List.map_cons, PyData.depthAll, depth_ints r]; rfl
theorem eqv_ints : ∀ ns ms : List Int, PyData.eqvAll (ns.map PyData.int) (ms.map PyData.int) = decide (ns = ms)
  | [], [] => rfl
  | [], _ :: _ => by simp [PyData.eqvAll]
  | _ :: _, [] => by simp [PyData.eqvAll]
  | n :: r, m :: t => by
    rw [List.map_cons, List.map_cons, PyData.eqvAll, PyData.eqv, eqv_ints r t, Bool.eq_iff_iff]
    simp
section
variable {X : Cx}
def rEqL (K : PySem.W.Frag) : R2 := fun x y H Q => ∃ (a b : Addr) (ns ms : List Int), x = .ref a ∧ y = .ref b ∧ SqL K H a (ns.map V.int) ∧ SqL K H b (ms.map V.int) ∧ Q (.bl (decide (ns = ms))) H
def rNeL (K : PySem.W.Frag) : R2 := fun x y H Q => ∃ (a b : Addr) (ns ms : List Int), x = .ref a ∧ y = .ref b ∧ SqL K H a (ns.map V.int) ∧ SqL K H b (ms.map V.int) ∧ Q (.bl (!decide (ns = ms))) H
theorem depth_list (ns : List Int) : (PyData.list (ns.map PyData.int)).depth = 1 := by rw [PyData.depth, depth_ints]
theorem op_eqL (hu : X.A.units + 64 < cLine) : OpR X (compareOp .Eq) (rEqL X.K) := by
  intro pins s σ H x y v u Q I rx ry h
  obtain ⟨a, b, ns, ms, rfl, rfl, h1, h2, q⟩ := h
  refine op_eqD hu pins s σ H _ _ v u Q I rx ry ⟨_, _, rd_list h1, rd_list h2, by rw [PyData.canLay0]; exact lay_ints ns, by rw [PyData.canLay0]; exact lay_ints ms, by rw [depth_list, depth_list]; decide, ?_⟩
  rw [PyData.eqv, eqv_ints]
  exact q
theorem op_neL (hu : X.A.units + 64 < cLine) : OpR X (compareOp .NotEq) (rNeL X.K) := by
  intro pins s σ H x y v u Q I rx ry h
  obtain ⟨a, b, ns, ms, rfl, rfl, h1, h2, q⟩ := h
  refine op_neD hu pins s σ H _ _ v u Q I rx ry ⟨_, _, rd_list h1, rd_list h2, by rw [PyData.canLay0]; exact lay_ints ns, by rw [PyData.canLay0]; exact lay_ints ms, by rw [depth_list, depth_list]; decide, ?_⟩
  rw [PyData.eqv, eqv_ints]
  exact q
end

def Ite (K : PySem.W.Frag) (a : Addr) : It :=
  ⟨fun i H => ∃ xs x, SqL K H a xs ∧ xs[i]? = some x,
   fun i H x H' => ∃ p y, x = .ref p ∧ H p = none ∧ H' = upd H p (.tup [.int (i : Int), y]) ∧ ∀ xs, SqL K H a xs → xs[i]? = some y,
   fun i H => ∃ xs, SqL K H a xs ∧ xs.length ≤ i⟩
theorem turn_enum {P : Program} {w : World} {K : PySem.W.Frag} {elts : List Expr} {kk : Nat} {pos : Pos} (a it e : Addr) (hne : e ≠ it) :
    Turn P w K (.Tuple elts kk pos) (Ite K a) [e, it] e (fun i h => (∃ old, IsEnum h e it (i : Int) old) ∧ h.IsListIter it a i) where
  mem := by simp
  obj := fun i h st b hb => by
    obtain ⟨⟨old, he⟩, hit⟩ := st
    rcases List.mem_cons.mp hb with hb | hb
    · subst hb
      exact ⟨_, he, fun v z => by
        have z' : Data.fields _ = Data.cell v := z
        cases z'⟩
    · have e2 : b = it := by simpa using hb
      subst e2
      obtain ⟨o, e, c, d⟩ := hit
      exact ⟨o, e, fun v z => by rw [d] at z; cases z⟩
  keep := fun i h h' st k => by
    obtain ⟨⟨old, he⟩, hit⟩ := st
    exact ⟨⟨old, k e (by simp) _ he⟩, hit.at fun o q => k it (by simp) o q⟩
  item := by
    intro X hP hw hK hc i pins s σ H E I hf st hg
    subst hP hw hK
    obtain ⟨xs, x, hq, hx⟩ := hg
    obtain ⟨its, rv, p, hz⟩ := I.list hq
    obtain ⟨u, hu, ru⟩ := rv.get hx
    obtain ⟨⟨old, he⟩, hit⟩ := st
    obtain ⟨f0, f1, f2, f3, f4, f5⟩ := hf e (by simp)
    obtain ⟨g0, g1, g2, g3, g4, g5⟩ := hf it (by simp)
    refine wpAny_pyNext_enum_item he hit p.isList (x := u) (by simpa using hu) hne fun h1 heo hit1 ht1 hz1 hk1 => ?_
    refine ⟨_, rfl, wpAny_letOwnedTupleGo_enum heo fun h2 he2 hs2 => ?_⟩
    have hs2' : Heap.SameBut e h1 h2 := hs2
    have helt : e < s.heap.objs.size := Heap.lt_size he
    have old2 : ∀ b o, b ≠ e → b ≠ it → s.heap.get? b = some o → h2.get? b = some o := fun b o n1 n2 q => (hs2'.2 b n1).trans (hk1 b o n1 n2 q)
    have hTe : s.heap.objs.size ≠ e := Nat.ne_of_gt helt
    have ht2 : h2.get? s.heap.objs.size = some { cls := .type "tuple", data := .seq #[.int (i : Int) s.toks, u] } := (hs2'.2 _ hTe).trans ht1
    have hn : H s.heap.objs.size = none := I.hok.fresh (Nat.le_refl _)
    have nch : ∀ b, b ∉ [e, it] → b ≠ e ∧ b ≠ it := fun b hb => ⟨fun z => hb (by simp [z]), fun z => hb (by simp [z])⟩
    have trk : ∀ b o, H b = some o → b ≠ e ∧ b ≠ it := fun b o q => ⟨ne_of_none q f0, ne_of_none q g0⟩
    have new : ObjOk X.prog X.w (upd H s.heap.objs.size (.tup [.int (i : Int), x])) h2 s.heap.objs.size (.tup [.int (i : Int), x]) :=
      ⟨by show 2 ≤ sizeLine; rw [sizeLine_eq]; decide, [.int (i : Int) s.toks, u], .cons ⟨_, rfl⟩ (.cons ru .nil), ⟨_, ht2, rfl, _, rfl⟩⟩
    have hok2 : HOk X.prog X.w (upd H s.heap.objs.size (.tup [.int (i : Int), x])) h2 := fun b o q => by
      by_cases hb : b = s.heap.objs.size
      · subst hb; rw [upd_same] at q; cases q; exact new
      · rw [upd_ne hb] at q
        refine (I.hok b o q).stay (fun c v hc' r => ?_) (fun c r => by rw [upd_ne (ne_of_none r hn)]; exact r) fun c ys r => by rw [upd_ne (ne_of_none r hn)]; exact r
        have hcc : c ≠ e ∧ c ≠ it := by
          rcases hc' with z | z
          · subst z; exact trk c o q
          · exact trk c _ z
        exact old2 c v hcc.1 hcc.2 r
    have I2 : Inv X pins σ (upd H s.heap.objs.size (.tup [.int (i : Int), x])) { s with heap := h2, toks := s.toks + 1 } :=
      I.step (g' := s.gens) (d' := s.drawn) (ch := [e, it])
        (fun b hb => by
          rcases List.mem_cons.mp hb with z | z
          · subst z; exact ⟨f3, f1, f4, f5⟩
          · have z' : b = it := by simpa using z
            subst z'; exact ⟨g3, g1, g4, g5⟩)
        (fun b o _ _ hb q _ => old2 b o (nch b hb).1 (nch b hb).2 q)
        (fun b o _ _ hb q _ => ⟨o.slots, old2 b o (nch b hb).1 (nch b hb).2 q⟩)
        (fun b o _ q n => by rw [upd_ne (Nat.ne_of_lt (Heap.lt_size q))]; exact n)
        (fun b o hb q => ⟨o, old2 b o (nch b hb).1 (nch b hb).2 q⟩)
        (fun b ys q => by rw [upd_ne (ne_of_none q hn)]; exact q)
        (fun b o u q => by rw [upd_ne (ne_of_none q hn)]; exact q)
        (fun b ps q => ⟨#[], by rw [upd_ne (ne_of_none q hn), q]; simp⟩)
        (fun m hm => by
          obtain ⟨o, es, ep, ho, r⟩ := hm
          exact ⟨o, es, ep, old2 _ o (Ne.symm f1) (Ne.symm g1) ho, r⟩) hok2 I.bare
    refine ⟨.ref s.heap.objs.size, _, I2, rfl, ⟨_, x, rfl, hn, rfl, fun ys hy => by rw [I.list_inj hy hq]; exact hx⟩, ⟨⟨u, ?_⟩, ?_⟩, fun b hb => ?_⟩
    · have e3 : ((i + 1 : Nat) : Int) = (i : Int) + 1 := by omega
      rw [e3]; exact he2
    · exact hit1.extBut hs2'.extBut (Ne.symm hne)
    · have hbz : b ≠ s.heap.objs.size := by
        rcases List.mem_cons.mp hb with z | z
        · subst z; exact Ne.symm hTe
        · have z' : b = it := by simpa using z
          subst z'
          obtain ⟨o, q, _⟩ := hit
          exact Nat.ne_of_lt (Heap.lt_size q)
      rw [upd_ne hbz]
      exact (hf b hb).1
  done := by
    intro X hP hw hK hc i pins s σ H E I hf st hg
    subst hP hw hK
    obtain ⟨xs, hq, hx⟩ := hg
    obtain ⟨its, rv, p, hz⟩ := I.list hq
    obtain ⟨⟨old, he⟩, hit⟩ := st
    obtain ⟨f0, f1, f2, f3, f4, f5⟩ := hf it (by simp)
    have hl := rv.length
    exact wpAny_pyNext_enum_end (I.ok.hd hc) he hit p.isList (by simp; omega) fun h' eb => ⟨rfl, I.turned (t' := s.toks) (fun b o hb z => eb b o hb z) f0 f1 f3 f4 f5⟩
  self := fun _ _ _ _ _ st h => by
    obtain ⟨⟨old, he⟩, _⟩ := st
    exact wpAny_pyIter_enum he h
section
variable {X : Cx}
def iEnum (K : PySem.W.Frag) (ta : TA) : TI := fun σ H R => ta σ H fun vs H1 => ∃ a, vs = [.ref a] ∧ (∃ xs, SqL K H1 a xs) ∧ R (Ite K a) H1
theorem pi_enum {l : Expr} {ta : TA} {elts : List Expr} {kk : Nat} {tpos p pos : Pos} (hg : Gl X "enumerate") (hm : X.mg "enumerate" = none) (ha : PA X [l] ta) (hs : starEach [l] X.env = [(false, eval l X.env)] := by rfl) :
    PI X (.Tuple elts kk tpos) (.Call (.Name "enumerate" p) [l] [] pos) (iEnum X.K ta) := by
  intro pins s σ H R I h
  refine Call_ (ld_blt I hg hm boot_enumerate (PyProof.Rows.callWith_type1 (thn (ha pos pins s σ H _ I h) fun us s1 ⟨vs, H1, I1, r1, q1⟩ => ?_) hs rfl))
  obtain ⟨a, rfl, ⟨xs, hq⟩, q⟩ := q1
  obtain ⟨u, rfl, rx⟩ := vals1 r1
  cases rx
  obtain ⟨its, rv, p, hz⟩ := I1.list hq
  refine call_enumerate_list p.isList fun h' he hit hz' hk => ?_
  refine wpAny_pyIter_enum he ?_
  have I2 : Inv X pins σ H1 { s1 with heap := h' } := I1.kept (t' := s1.toks) hk
  refine ⟨s1.heap.objs.size + 1, [s1.heap.objs.size + 1, s1.heap.objs.size], _, _, H1, rfl, I2, turn_enum a _ _ (Nat.succ_ne_self _), ⟨⟨_, he⟩, hit⟩, fun b hb => ?_, q⟩
  have e : s1.heap.objs.size ≤ b := by
    rcases List.mem_cons.mp hb with z | z
    · rw [z]; exact Nat.le_succ _
    · have z' : b = s1.heap.objs.size := by simpa using z
      rw [z']; exact Nat.le_refl _
  exact I1.fpOk e (I1.hok.fresh e)
end
theorem for_enum {K : PySem.W.Frag} {a : Addr} {xs : List V} {g : TG} {tb : TS} {D : Ends} {σ : St} {H : Hp} (Pv : Nat → St → Hp → Prop) (h0 : Pv 0 σ H) (hl : ∀ i σ H, i ≤ xs.length → Pv i σ H → SqL K H a xs)
    (hs : ∀ i x σ H p, xs[i]? = some x → Pv i σ H → H p = none → g (.ref p) σ (upd H p (.tup [.int (i : Int), x])) fun σ2 H2 => tb { D with nx := Pv (i + 1), ct := Pv (i + 1), bk := D.nx } σ2 H2) (hd : ∀ σ H, Pv xs.length σ H → D.nx σ H) :
    ∃ W : Nat → Nat → St → Hp → Prop, (∃ m, W 0 m σ H) ∧ ∀ i m σ H, W i m σ H →
      ((Ite K a).stop i H ∧ D.nx σ H) ∨ ((Ite K a).go i H ∧ ∃ N : St → Hp → Prop, (∀ σ' H', N σ' H' → ∃ m', m' < m ∧ W (i + 1) m' σ' H') ∧ ∀ x H', (Ite K a).yld i H x H' → g x σ H' fun σ2 H2 => tb { D with nx := N, ct := N, bk := D.nx } σ2 H2) := by
  refine ⟨fun i m σ H => m = xs.length - i ∧ i ≤ xs.length ∧ Pv i σ H, ⟨xs.length, by simp, Nat.zero_le _, h0⟩, ?_⟩
  rintro i m σ H ⟨rfl, hi, p⟩
  have q := hl i σ H hi p
  by_cases hlt : i < xs.length
  · refine .inr ⟨⟨xs, xs[i], q, by simp [hlt]⟩, Pv (i + 1), fun σ' H' p' => ⟨xs.length - (i + 1), by omega, rfl, hlt, p'⟩, fun x H' y => ?_⟩
    obtain ⟨pp, v, rfl, hn, rfl, y⟩ := y
    exact hs i v σ _ pp (y xs q) p hn
  · have e : i = xs.length := by omega
    subst e
    exact .inl ⟨⟨xs, q, Nat.le_refl _⟩, hd σ H p⟩
end L3

set_option Elab.async false
set_option linter.all false
set_option maxRecDepth 100000
set_option maxHeartbeats 4000000
namespace L3
open PySem PySem.Spec PyProof.Rows L2

section
variable {P : Program} {w : World} {A : Around} {R : Result → Shared → Prop}
end
section
variable {X : Cx}
end
end L3

set_option Elab.async false
set_option linter.all false
set_option maxRecDepth 100000
set_option maxHeartbeats 4000000
namespace L3
open PySem PySem.Spec PyProof.Rows L2

def clStep (env : Env) (cs : List (Str × Addr)) (x : Str × NameKind) : List (Str × Addr) := if x.2 = .free then (x.1, (env.cells.lookup x.1).getD 0) :: cs else cs
def clOf (env : Env) (names : List (Str × NameKind)) : List (Str × Addr) := names.foldl (clStep env) []
theorem forIn_fold {α β : Type} {f : α → β → Sem (ForInStep β)} (g : β → α → β) : ∀ (l : List α) (b : β), (∀ x ∈ l, ∀ c, f x c = pure (.yield (g c x))) → forIn l b f = pure (l.foldl g b)
  | [], _, _ => rfl
  | x :: l, b, h => by
    rw [List.forIn_cons, h x List.mem_cons_self, pure_bind]
    exact forIn_fold g l (g b x) fun y hy => h y (List.mem_cons_of_mem _ hy)
theorem closure_is {scope : Scope} {env : Env} (h : ∀ y ∈ scope.names, y.2 = .free → ∃ c, env.cells.lookup y.1 = some c) : closureFor scope env = pure (clOf env scope.names) := by
  simp only [closureFor]
  rw [forIn_fold (clStep env) scope.names [] fun x hx cs => ?_]
  · rfl
  · obtain ⟨n, kind⟩ := x
    by_cases hk : kind = .free
    · obtain ⟨c, hc⟩ := h _ hx hk
      have hc' : env.cells.lookup n = some c := hc
      have e1 : (kind == NameKind.free) = true := by rw [hk]; rfl
      have e2 : clStep env cs (n, kind) = (n, c) :: cs := by
        unfold clStep
        rw [if_pos hk]
        show (n, (env.cells.lookup n).getD 0) :: cs = _
        rw [hc']; rfl
      rw [e2]
      simp only [e1, if_true, cellOf, hc', pure_bind]
    · have e1 : (kind == NameKind.free) = false := by simpa using hk
      have e2 : clStep env cs (n, kind) = cs := by
        unfold clStep
        rw [if_neg hk]
      rw [e2]
      simp only [e1, Bool.false_eq_true, if_false]
theorem cl_sub {env : Env} : ∀ (names : List (Str × NameKind)) (cs : List (Str × Addr)), (∀ y ∈ names, y.2 = .free → ∃ c, env.cells.lookup y.1 = some c) → (∀ x c, cs.lookup x = some c → env.cells.lookup x = some c) →
    ∀ x c, (names.foldl (clStep env) cs).lookup x = some c → env.cells.lookup x = some c
  | [], _, _, hc => hc
  | y :: r, cs, h, hc => by
    refine cl_sub r (clStep env cs y) (fun z hz => h z (List.mem_cons_of_mem _ hz)) fun x c e => ?_
    unfold clStep at e
    split at e
    · rename_i hk
      obtain ⟨d, hd⟩ := h y List.mem_cons_self hk
      rw [List.lookup_cons] at e
      split at e
      · rename_i hx
        have hx' : x = y.1 := by simpa using hx
        rw [hd] at e
        cases e
        rw [hx']; exact hd
      · exact hc x c e
    · exact hc x c e
theorem cl_keep {env : Env} : ∀ (names : List (Str × NameKind)) (cs : List (Str × Addr)) (x : Str), (∃ c, cs.lookup x = some c) → ∃ c, (names.foldl (clStep env) cs).lookup x = some c
  | [], _, _, h => h
  | y :: r, cs, x, ⟨c, h⟩ => by
    refine cl_keep r (clStep env cs y) x ?_
    unfold clStep
    split
    · rw [List.lookup_cons]
      split
      · exact ⟨_, rfl⟩
      · exact ⟨c, h⟩
    · exact ⟨c, h⟩
theorem cl_has {env : Env} : ∀ (names : List (Str × NameKind)) (cs : List (Str × Addr)) (y : Str × NameKind), y ∈ names → y.2 = .free → ∃ c, (names.foldl (clStep env) cs).lookup y.1 = some c
  | [], _, y, hy, _ => absurd hy (by simp)
  | z :: r, cs, y, hy, hk => by
    rcases List.mem_cons.mp hy with e | e
    · subst e
      refine cl_keep r _ y.1 ?_
      unfold clStep
      rw [if_pos hk, List.lookup_cons]
      simp
    · exact cl_has r _ y e hk
theorem relabel_free {env : Env} : ∀ {names : List (Str × NameKind)} {x : Str}, names.lookup x = some .free →
    (names.map fun (n, k) => if (k == NameKind.free && env.scope.kind == .function && env.kindOf n == some .cell) then (n, NameKind.cell) else (n, k)).lookup x = some .cell ∨
    (names.map fun (n, k) => if (k == NameKind.free && env.scope.kind == .function && env.kindOf n == some .cell) then (n, NameKind.cell) else (n, k)).lookup x = some .free
  | [], _, h => by simp at h
  | (n, k) :: r, x, h => by
    have ih := @relabel_free env r x
    show List.lookup x ((if (k == NameKind.free && env.scope.kind == .function && env.kindOf n == some .cell) = true then (n, NameKind.cell) else (n, k)) :: _) = _ ∨ List.lookup x ((if (k == NameKind.free && env.scope.kind == .function && env.kindOf n == some .cell) = true then (n, NameKind.cell) else (n, k)) :: _) = _
    cases hx : x == n with
    | true =>
      simp only [List.lookup_cons, hx] at h
      cases h
      by_cases hc : (NameKind.free == NameKind.free && env.scope.kind == .function && env.kindOf n == some .cell) = true
      · rw [if_pos hc]; simp only [List.lookup_cons, hx]; exact .inl trivial
      · rw [if_neg hc]; simp only [List.lookup_cons, hx]; exact .inr trivial
    | false =>
      simp only [List.lookup_cons, hx] at h
      by_cases hc : (k == NameKind.free && env.scope.kind == .function && env.kindOf n == some .cell) = true
      · rw [if_pos hc]; simp only [List.lookup_cons, hx]; exact ih h
      · rw [if_neg hc]; simp only [List.lookup_cons, hx]; exact ih h
theorem relabel_of {env : Env} : ∀ {names : List (Str × NameKind)} {x : Str}, (∀ y ∈ names, y.2 ≠ .cell) →
    ((names.map fun (n, k) => if (k == NameKind.free && env.scope.kind == .function && env.kindOf n == some .cell) then (n, NameKind.cell) else (n, k)).lookup x = some .cell ∨
    (names.map fun (n, k) => if (k == NameKind.free && env.scope.kind == .function && env.kindOf n == some .cell) then (n, NameKind.cell) else (n, k)).lookup x = some .free) → ∃ y ∈ names, y.1 = x ∧ y.2 = .free
  | [], _, _, h => by simp at h
  | (n, k) :: r, x, hc0, h => by
    have ih := @relabel_of env r x fun y hy => hc0 y (List.mem_cons_of_mem _ hy)
    have hk : k ≠ .cell := hc0 (n, k) List.mem_cons_self
    cases hx : x == n with
    | true =>
      have hx' : x = n := by simpa using hx
      refine ⟨(n, k), List.mem_cons_self, hx'.symm, ?_⟩
      by_cases hf : k = .free
      · exact hf
      · have e1 : (k == NameKind.free) = false := by simpa using hf
        exfalso
        have h' : List.lookup x ((if (k == NameKind.free && env.scope.kind == .function && env.kindOf n == some .cell) = true then (n, NameKind.cell) else (n, k)) :: _) = some .cell ∨ List.lookup x ((if (k == NameKind.free && env.scope.kind == .function && env.kindOf n == some .cell) = true then (n, NameKind.cell) else (n, k)) :: _) = some .free := h
        simp only [e1, Bool.false_and, Bool.false_eq_true, if_false, List.lookup_cons, hx] at h'
        rcases h' with z | z
        · exact hk (Option.some.inj z)
        · exact hf (Option.some.inj z)
    | false =>
      have h' : List.lookup x ((if (k == NameKind.free && env.scope.kind == .function && env.kindOf n == some .cell) = true then (n, NameKind.cell) else (n, k)) :: _) = some .cell ∨ List.lookup x ((if (k == NameKind.free && env.scope.kind == .function && env.kindOf n == some .cell) = true then (n, NameKind.cell) else (n, k)) :: _) = some .free := h
      by_cases hc : (k == NameKind.free && env.scope.kind == .function && env.kindOf n == some .cell) = true
      · rw [if_pos hc] at h'
        simp only [List.lookup_cons, hx] at h'
        obtain ⟨y, hy, r1, r2⟩ := ih h'
        exact ⟨y, List.mem_cons_of_mem _ hy, r1, r2⟩
      · rw [if_neg hc] at h'
        simp only [List.lookup_cons, hx] at h'
        obtain ⟨y, hy, r1, r2⟩ := ih h'
        exact ⟨y, List.mem_cons_of_mem _ hy, r1, r2⟩

def cxComp (X : Cx) (scope : Scope) (NB : List Str) (C : Addr) (s₂ : Shared) (H : Hp) (fp : List Addr) : Cx :=
  { X with N := NB, s₀ := s₂, H₀ := H, env := compEnvC scope (clOf X.env scope.names) C X.env, outer := X.stack, ex := fp, fn := fun _ => false, pn := [], xe := fun _ _ => False }
def blk (src : List (Option Nat)) (σ : St) : St := src.map fun o => o.bind fun i => (σ[i]?).join
def chk (N : List Str) (scope : Scope) (NB : List Str) (src : List (Option Nat)) : Bool :=
  decide (NB.length = src.length) && (NB.zip src).all fun p => match p.2 with
    | none => true
    | some i => decide (N[i]? = some p.1) && decide (scope.names.lookup p.1 = some .free)
def chkS (scope sc : Scope) : Bool :=
  decide (scope.kind = .function) && scope.names.all fun y => decide (y.2 ≠ .cell) && (decide (y.2 ≠ .local) || decide (scope.names.lookup y.1 = some .local)) &&
    (decide (y.2 ≠ .free) || (decide (sc.names.lookup y.1 = some .cell) || decide (sc.names.lookup y.1 = some .free)))

def PIf (X : Cx) (ifs : List Expr) (t : TT) : Prop :=
  ∀ (pins : List (Addr × Obj)) (s : Shared) (σ : St) (H : Hp) (Q : Bool → Hp → Prop), Inv X pins σ H s → t σ H Q →
    wpAny (model X.prog X.w) X.A (forIn ifs true fun c r => if r = true then do let ok ← isTrue c X.env (eval c X.env); pure (ForInStep.yield ok) else pure (ForInStep.yield r)) (TP X pins σ Q) X.xe s
theorem pif_nil {X : Cx} : PIf X [] (fun _ H Q => Q true H) := fun _ _ _ H _ I h => wpAny_tests_nil ⟨H, I, h⟩
theorem pif_one {X : Cx} {c : Expr} {t : TT} (h : PT X c t) : PIf X [c] t := fun pins s σ H Q I q => wpAny_tests_one (h pins s σ H Q I q)

def CompW (J : It) (g : TG) (tt : TT) (te : TE) (Q : VK) (D : Addr) (σ₀ : St) (H₀ : Hp) : Prop :=
  ∃ W : Nat → Nat → List V → St → Hp → Prop, (∃ m, W 0 m [] σ₀ (upd H₀ D (.lst []))) ∧
    ∀ i m ys σ' H', W i m ys σ' H' →
      ((J.stop i H' ∧ Q (.ref D) H') ∨ (J.go i H' ∧ ∃ M : List V → St → Hp → Prop, (∀ ys' σ3 H3, M ys' σ3 H3 → ∃ m', m' < m ∧ W (i + 1) m' ys' σ3 H3) ∧ ∀ x H2, J.yld i H' x H2 → g x σ' H2 fun σ3 H3 => tt σ3 H3 fun b H4 =>
        if b = true then te σ3 H4 fun v H5 => H5 D = some (.lst ys) ∧ ys.length < sizeLine ∧ M (ys ++ [v]) σ3 (upd H5 D (.lst (ys ++ [v])))
        else M ys σ3 H4))
def tComp (src : List (Option Nat)) (wi : TI) (g : TG) (tt : TT) (te : TE) : TE := fun σ H Q => wi σ H fun J H1 => ∀ D, H1 D = none → CompW J g tt te Q D (blk src σ) H1

section
variable {X : Cx} {elt tg iter : Expr} {ifs : List Expr} {scope sc : Scope} {N NB : List Str} {src : List (Option Nat)} {wi : TI} {g : TG} {tt : TT} {te : TE} {pos : Pos}

theorem chkS_of (h : chkS scope sc = true) : scope.kind = .function ∧ (∀ y ∈ scope.names, y.2 ≠ .cell) ∧ (∀ y ∈ scope.names, y.2 = .local → scope.names.lookup y.1 = some .local) ∧
    ∀ y ∈ scope.names, y.2 = .free → sc.names.lookup y.1 = some .cell ∨ sc.names.lookup y.1 = some .free := by
  unfold chkS at h
  rw [Bool.and_eq_true, decide_eq_true_iff, List.all_eq_true] at h
  obtain ⟨h1, h2⟩ := h
  refine ⟨h1, fun y hy => ?_, fun y hy z => ?_, fun y hy z => ?_⟩
  · have := h2 y hy
    simp only [Bool.and_eq_true, decide_eq_true_iff] at this
    exact this.1.1
  · have := h2 y hy
    simp only [Bool.and_eq_true, Bool.or_eq_true, decide_eq_true_iff] at this
    rcases this.1.2 with q | q
    · exact absurd z q
    · exact q
  · have := h2 y hy
    simp only [Bool.and_eq_true, Bool.or_eq_true, decide_eq_true_iff] at this
    rcases this.2 with q | q
    · exact absurd z q
    · exact q
theorem chk_of (h : chk N scope NB src = true) : NB.length = src.length ∧ ∀ (j i : Nat) (x : Str), NB[j]? = some x → src[j]? = some (some i) → N[i]? = some x ∧ scope.names.lookup x = some .free := by
  unfold chk at h
  rw [Bool.and_eq_true, decide_eq_true_iff, List.all_eq_true] at h
  refine ⟨h.1, fun j i x e1 e2 => ?_⟩
  have hm : (x, some i) ∈ NB.zip src := List.mem_of_getElem? (i := j) (by rw [List.getElem?_zip_eq_some]; exact ⟨e1, e2⟩)
  have := h.2 _ hm
  simp only [Bool.and_eq_true, decide_eq_true_iff] at this
  exact this

theorem comp_core (hS : chkS scope sc = true) (hN : chk N scope NB src = true) (hsc : X.env.scope = sc) (hXN : X.N = N) (hc : X.calm = true)
    (hg : ∀ C s₂ H fp, PG (cxComp X scope NB C s₂ H fp) tg g) (hi : ∀ C s₂ H fp, PIf (cxComp X scope NB C s₂ H fp) ifs tt) (he : ∀ C s₂ H fp, PE (cxComp X scope NB C s₂ H fp) elt te)
    {pins : List (Addr × Obj)} {σ : St} {H2 : Hp} {s2 : Shared} {it : Addr} {fp : List Addr} {tn : Nat → Heap → Prop} {J : It} {Q : VK} {E : Value → Shared → Prop}
    (I2 : Inv X pins σ H2 s2) (T : Turn X.prog X.w X.K tg J fp it tn) (st2 : tn 0 s2.heap) (f2 : ∀ b ∈ fp, FpOk X pins H2 b) (q : ∀ D, H2 D = none → CompW J g tt te Q D (blk src σ) H2)
    {RR : Value → Addr → Result → Shared → Prop}
    (hRR : ∀ (D C : Addr) (s' : Shared) (H' : Hp), Inv X pins σ H' s' → Q (.ref D) H' → (∃ m, s'.heap.Ns C m) → H' C = none → C ≠ X.env.locals → X.s₀.heap.objs.size ≤ C → (∀ x c, X.env.cells.lookup x = some c → c ≠ C) → (∀ p ∈ X.pn ++ pins, p.1 ≠ C) → RR (.ref D) C (.ok .next) s') :
    wpAny (model X.prog X.w) X.A (newList []) (fun acc s₃ => wpAny (model X.prog X.w) X.A (newFunctionEnv scope X.env.globals (clOf X.env scope.names) [] X.env.qual none .none (some X.env)) (fun cenv s₄ =>
      codeAny (model X.prog X.w) X.A (.compStart (.ListComp elt [⟨tg, iter, ifs, 0⟩] scope pos) 0 (.ref it) acc { cenv with scope := relabel scope X.env }) (RR acc cenv.locals) s₄) E s₃) E s2 := by
  obtain ⟨hkind, hcell, hnames, hfree⟩ := chkS_of hS
  obtain ⟨hlen, hsrc⟩ := chk_of hN
  subst hsc hXN
  have hcl0 : ∀ y ∈ scope.names, y.2 = .free → ∃ c, X.env.cells.lookup y.1 = some c := fun y hy z => I2.ok.has y.1 (hfree y hy z)
  have clsub : ∀ x c, (clOf X.env scope.names).lookup x = some c → X.env.cells.lookup x = some c := cl_sub scope.names [] hcl0 (fun x c e => by cases e)
  refine wpAny_newObj_type (wpAny_newFunctionEnv hcell (by intro y hy; simp at hy) (fun h₁ hns₁ hsb₁ => ?_) hkind)
  dsimp only at hns₁ hsb₁ ⊢
  generalize hH3 : s2.heap.push { cls := .type "list", dict := none, data := .seq ([] : List Value).toArray } = H3 at hns₁ hsb₁ ⊢
  have hC : H3.objs.size = s2.heap.objs.size + 1 := by rw [← hH3, Heap.size_push]
  have hDC : s2.heap.objs.size ≠ H3.objs.size := by rw [hC]; exact Nat.ne_of_lt (Nat.lt_succ_self _)
  have old : ∀ b o, s2.heap.get? b = some o → h₁.get? b = some o := fun b o e => by
    have hb := Heap.lt_size e
    exact hsb₁.extBut b o (by rw [hC]; exact Nat.ne_of_lt (Nat.lt_succ_of_lt hb)) (Heap.get?_push_of_some _ (hH3 ▸ Heap.get?_push_of_some _ e))
  have hacc : h₁.get? s2.heap.objs.size = some { cls := .type "list", data := .seq ([] : List Value).toArray } :=
    hsb₁.extBut _ _ hDC (Heap.get?_push_of_some _ (hH3 ▸ Heap.get?_push_size _ rfl))
  have hDn : H2 s2.heap.objs.size = none := I2.hok.fresh (Nat.le_refl _)
  have hCn : H2 H3.objs.size = none := I2.hok.fresh (by rw [hC]; exact Nat.le_succ _)
  have fpl : ∀ b ∈ fp, b < s2.heap.objs.size := fun b hb => by
    obtain ⟨o, e, _⟩ := T.obj _ _ st2 b hb
    exact Heap.lt_size e
  have cellLt : ∀ x c, X.env.cells.lookup x = some c → c < s2.heap.objs.size := fun x c e => by
    obtain ⟨v, z⟩ := I2.cell x c e
    exact z.lt
  have cneC : ∀ x c, X.env.cells.lookup x = some c → c ≠ H3.objs.size := fun x c e => by
    rw [hC]
    exact Nat.ne_of_lt (Nat.lt_succ_of_lt (cellLt x c e))
  let Y : Cx := cxComp X scope NB H3.objs.size s2 H2 fp
  have okY : Y.Ok := {
    mod := I2.ok.mod
    kind := hkind
    glob := I2.ok.glob
    blt := I2.ok.blt
    above := by show s2.heap.objs.size ≤ H3.objs.size; rw [hC]; exact Nat.le_succ _
    inj := fun x y c e1 e2 => I2.ok.inj x y c (clsub x c e1) (clsub y c e2)
    has := fun x hx => by
      obtain ⟨y, hy, rfl, hyf⟩ := relabel_of (env := X.env) hcell hx
      exact cl_has scope.names [] y hy hyf
    cab := fun x c z _ => by cases z
    hd := I2.ok.hd
    frames := I2.ok.frames
    stk := .inl rfl
    exf := fun b hb => ⟨by show b ≠ H3.objs.size; rw [hC]; exact Nat.ne_of_lt (Nat.lt_succ_of_lt (fpl b hb)), fun x c e => (f2 b hb).2.2.2.2.1 x c (clsub x c e)⟩
    bs := I2.bs
    bsz := Nat.le_trans I2.ok.bsz I2.sz
    noex := fun b o e hb => by
      rcases (f2 b hb).2.2.2.1 with z | z
      · exact I2.ok.noex b o e z
      · exact absurd (Nat.lt_of_lt_of_le (Heap.lt_size (I2.ok.bs b o e).1) z) (Nat.lt_irrefl _)
    exfs := fun b hb z => by
      rcases List.mem_cons.mp (I2.stkSub b z) with y | y
      · exact (f2 b hb).2.1 y
      · exact (f2 b hb).2.2.1 y
    funs := I2.stack
    frf := I2.stkFree }
  have IY0 : Inv Y [] (blk src σ) (upd H2 s2.heap.objs.size (.lst [])) { s2 with heap := h₁, toks := s2.toks + ([] : List (Str × Value)).length } := {
    ok := okY
    os := rfl
    bare := I2.bare
    base := Un.laid old (Nat.le_refl _) hDn
    loc := by
      refine ⟨_, hns₁, fun j x v e1 e2 e3 => ?_⟩
      have e2' : (src.map fun o => o.bind fun i => (σ[i]?).join)[j]? = some (some v) := e2
      rw [List.getElem?_map] at e2'
      cases hj : src[j]? with
      | none => rw [hj] at e2'; cases e2'
      | some o =>
        rw [hj] at e2'
        have e4 : (o.bind fun i => (σ[i]?).join) = some v := Option.some.inj e2'
        cases o with
        | none => cases e4
        | some i =>
          have e5 : (σ[i]?).join = some v := e4
          obtain ⟨hNi, hlk⟩ := hsrc j i x e1 hj
          have e6 : σ[i]? = some (some v) := by
            cases hs : σ[i]? with
            | none => rw [hs] at e5; cases e5
            | some w' => rw [hs] at e5; have : w' = some v := e5; rw [this]
          obtain ⟨m, hn, hl⟩ := I2.loc
          have hkx := hfree (x, .free) (PySem.mem_of_lookup hlk) rfl
          obtain ⟨u, ru, lk⟩ := hl i x v hNi e6 (hkx.elim (fun z => .inr (.inl z)) fun z => .inr (.inr z))
          refine ⟨u, ru, ?_⟩
          rcases lk with ⟨k, _⟩ | ⟨k, c, ec, ic⟩
          · exfalso
            have k' : X.env.scope.names.lookup x = some .local := k
            rcases hkx with z | z
            · rw [k'] at z; cases z
            · rw [k'] at z; cases z
          · obtain ⟨c', hc'⟩ := cl_has (env := X.env) scope.names [] (x, .free) (PySem.mem_of_lookup hlk) rfl
            have hcc : c' = c := Option.some.inj ((clsub x c' hc').symm.trans ec)
            subst hcc
            refine .inr ⟨relabel_free (env := X.env) hlk, c', hc', ?_⟩
            obtain ⟨o, ho, hd⟩ := ic
            exact ⟨o, old c' o ho, hd⟩
    cell := fun x c e => by
      obtain ⟨v, o, ho, hd⟩ := I2.cell x c (clsub x c e)
      exact ⟨v, o, old c o ho, hd⟩
    free := by
      show upd H2 s2.heap.objs.size (.lst []) H3.objs.size = none
      rw [upd_ne (Ne.symm hDC)]; exact hCn
    freeC := fun x c e => by
      have := cellLt x c (clsub x c e)
      rw [upd_ne (Nat.ne_of_lt this)]
      exact I2.freeC x c (clsub x c e)
    pin := fun p hp => absurd (show p ∈ ([] : List (Addr × Obj)) from hp) (by simp)
    hok := I2.hok.laid old (Nat.le_refl _) ⟨Nat.zero_le _, [], 0, .nil, hacc⟩
    len := by show (src.map _).length = NB.length; rw [List.length_map]; exact hlen.symm }
  have statY : ∀ {H' : Hp}, (∀ b ∈ fp, H' b = none) → ∀ b ∈ fp, FpOk Y [] H' b := fun hn b hb =>
    ⟨hn b hb, (okY.exf b hb).1, okY.exfs b hb, .inl hb, (okY.exf b hb).2, fun p hp => absurd (show p ∈ ([] : List (Addr × Obj)) from hp) (by simp)⟩
  have back : ∀ {pl : List (Addr × Obj)} {σ' : St} {H' : Hp} {s' : Shared}, Inv Y pl σ' H' s' → Inv X pins σ H' s' := fun {pl σ' H' s'} IY =>
    I2.call' (ch := fp) IY.os IY.base IY.hok IY.bare fun b hb => ⟨(f2 b hb).2.2.2.1, (f2 b hb).2.1, (f2 b hb).2.2.2.2.1, (f2 b hb).2.2.2.2.2⟩
  obtain ⟨W, ⟨m0, w0⟩, turn⟩ := q s2.heap.objs.size hDn
  have loop : ∀ s₃ : Shared, s₃ = { s2 with heap := h₁, toks := s2.toks + ([] : List (Str × Value)).length } →
      codeAny (model X.prog X.w) X.A (.compLoop (.ListComp elt [⟨tg, iter, ifs, 0⟩] scope pos) 0 (.ref it) (.ref s2.heap.objs.size) Y.env) (RR (.ref s2.heap.objs.size) H3.objs.size) s₃ := by
    rintro s₃ rfl
    refine codeAny_loop rfl (fun n s' => ∃ i ys σ' H', Inv Y [] σ' H' s' ∧ tn i s'.heap ∧ (∀ b ∈ fp, H' b = none) ∧ W i n ys σ' H') (fun n s3 hI => ?_) m0
      ⟨0, [], _, _, IY0, T.keep _ _ _ st2 (fun b _ o e => old b o e), fun b hb => by rw [upd_ne (Nat.ne_of_lt (fpl b hb))]; exact (f2 b hb).1, w0⟩
    obtain ⟨i, ys, σ3, H4, I3, st3, fr3, w3⟩ := hI
    show wpAny _ X.A ((compTurn (.ListComp elt [⟨tg, iter, ifs, 0⟩] scope pos) 0 (.ref it) (.ref s2.heap.objs.size) Y.env).onRaise (fun x => do noteFrame x Y.env; theTreesLotGoes x)) _ _ s3
    refine wpAny_noted ?_
    rw [compTurn_list]
    rcases turn i n ys σ3 H4 w3 with ⟨stop, qn⟩ | ⟨go, M, hM, step⟩
    · refine wpAny_bind (wpAny_standAt (wpAny_bind (thn (T.done Y rfl rfl rfl hc i [] s3 σ3 H4 _ I3 (statY fr3) st3 stop) fun r s4 ⟨hr, I4⟩ => ?_)))
      subst hr
      refine wpAny_pure ?_
      obtain ⟨m, hm, _⟩ := I4.loc
      refine hRR _ _ s4 H4 (back I4) qn ⟨m, hm⟩ I4.free ?_ ?_ cneC fun p hp => ?_
      · show H3.objs.size ≠ X.env.locals
        rw [hC]
        exact Nat.ne_of_gt (Nat.lt_succ_of_lt I2.lt)
      · rw [hC]
        exact Nat.le_succ_of_le I2.sz
      · rw [hC]
        exact Nat.ne_of_lt (Nat.lt_succ_of_lt (Heap.lt_size (I2.pin p hp).1))
    · refine wpAny_bind (wpAny_standAt (wpAny_bind (thn (T.item Y rfl rfl rfl hc i [] s3 σ3 H4 _ I3 (statY fr3) st3 go) fun r s4 ⟨u, hr, h4⟩ => ?_)))
      subst hr
      refine wpAny_bind (thn h4 fun _ s5 ⟨x, H5, I5, r5, y5, st5, fr5⟩ => ?_)
      have I5' := I5.pinned (statY fr5) (T.obj _ _ st5)
      have again : ∀ {σ7 : St} {H7 : Hp} {s7 : Shared} {ys' : List V}, Inv Y ([] ++ pinsAt fp s5.heap) σ7 H7 s7 → (∃ m', m' < n ∧ W (i + 1) m' ys' σ7 H7) →
          ∃ m, m < n ∧ ∃ i ys σ' H', Inv Y [] σ' H' s7 ∧ tn i s7.heap ∧ (∀ b ∈ fp, H' b = none) ∧ W i m ys σ' H' := fun {σ7 H7 s7 ys'} I7 ⟨m', hm, w7⟩ => by
        refine ⟨m', hm, i + 1, ys', σ7, H7, I7.unpinned, T.keep _ _ _ st5 fun b hb o e => (I7.pin (b, o) (List.mem_append_right _ (List.mem_append_right _ (mem_pinsAt hb e)))).1, fun b hb => ?_, w7⟩
        obtain ⟨o, e, d⟩ := T.obj _ _ st5 b hb
        exact (I7.pin (b, o) (List.mem_append_right _ (List.mem_append_right _ (mem_pinsAt hb e)))).2.1
      refine wpAny_bind (wpAny_mono (hg H3.objs.size s2 H2 fp _ s5 σ3 H5 x u _ I5' r5 (step x H5 y5)) (fun _ s6 ⟨σ6, H6, I6, q6⟩ => ?_) fun _ _ z => z.elim)
      refine wpAny_bind (wpAny_mono (hi H3.objs.size s2 H2 fp _ s6 σ6 H6 _ I6 q6) (fun ok s7 ⟨H7, I7, q7⟩ => ?_) fun _ _ z => z.elim)
      cases ok with
      | false =>
        exact wpAny_pure ⟨rfl, again I7 (hM _ _ _ (by simpa using q7))⟩
      | true =>
        refine wpAny_bind (wpAny_bind (wpAny_mono (he H3.objs.size s2 H2 fp _ s7 σ6 H7 _ I7 (by simpa using q7)) (fun v s8 h8 => ?_) fun _ _ z => z.elim))
        obtain ⟨y, H8, I8, r8, hD8, hz8, q8⟩ := h8
        refine wpAny_bind (wpAny_mono (mt_append (X := Y) _ s8 σ6 H8 (.ref s2.heap.objs.size) [y] (.ref s2.heap.objs.size) [v] (fun _ H9 => H9 = upd H8 s2.heap.objs.size (.lst (ys ++ [y]))) I8 rfl (.cons r8 .nil) ⟨_, ys, y, rfl, rfl, hD8, hz8, rfl⟩)
          (fun _ s9 ⟨_, H9, I9, _, e9⟩ => ?_) fun _ _ z => z.elim)
        subst e9
        exact wpAny_pure (wpAny_pure ⟨rfl, again I9 (hM _ _ _ q8)⟩)
  exact codeAny_compStart_list (loop _ rfl) (T.self _ 0 _ _ _ (T.keep _ _ _ st2 fun b _ o e => old b o e) (loop _ rfl))

theorem pe_comp (N : List Str) (NB : List Str) (src : List (Option Nat)) (sc : Scope) (hc : X.calm = true) (hit : PI X tg iter wi)
    (hg : ∀ C s₂ H fp, PG (cxComp X scope NB C s₂ H fp) tg g) (hi : ∀ C s₂ H fp, PIf (cxComp X scope NB C s₂ H fp) ifs tt) (he : ∀ C s₂ H fp, PE (cxComp X scope NB C s₂ H fp) elt te)
    (hS : chkS scope sc = true := by decide +kernel) (hN : chk N scope NB src = true := by decide +kernel) (hsc : X.env.scope = sc := by rfl) (hXN : X.N = N := by rfl)
    (hs : ∀ x, foldedSetIterable iter X.env x = pure x := by intro _; rfl) : PE X (.ListComp elt [⟨tg, iter, ifs, 0⟩] scope pos) (tComp src wi g tt te) := by
  intro pins s σ H Q I h
  obtain ⟨hkind, hcell, hnames, hfree⟩ := chkS_of hS
  rw [eval_ListComp]
  refine wpAny_comprehension_free (use := none) rfl hs (closure_is fun y hy z => I.ok.has y.1 (by have := hfree y hy z; rw [← hsc] at this; exact this)) hkind hnames (thn (hit pins s σ H _ I h) fun v s1 h1 => thn h1 fun itv s2 h2 => ?_)
  obtain ⟨it, fp, tn, J, H2, rfl, I2, T, st2, f2, q⟩ := h2
  refine comp_core hS hN hsc hXN hc hg hi he I2 T st2 f2 q (RR := fun acc C => compPost (model X.prog X.w) X.A X.xe none (EP X pins σ Q) acc C) ?_
  intro D C s' H' I' q' hm hC h1 h2 h3 h4
  obtain ⟨m, hm⟩ := hm
  exact ⟨m, hm, fun h' hs' => ⟨.ref D, H', I'.turned (t' := s'.toks) (fun b o hb e => (hs'.2 b hb).trans e) hC (Ne.symm h1 |>.symm) (.inr h2) h3 h4, rfl, q'⟩⟩
theorem ps_setC {i : Nat} {y : Str} {py spos : Pos} (N : List Str) (NB : List Str) (src : List (Option Nat)) (sc : Scope) (hc : X.calm = true) (hNd : X.N.Nodup) (hyi : X.N[i]? = some y) (hy : Loc X.env.scope y) (hit : PI X tg iter wi)
    (hg : ∀ C s₂ H fp, PG (cxComp X scope NB C s₂ H fp) tg g) (hi : ∀ C s₂ H fp, PIf (cxComp X scope NB C s₂ H fp) ifs tt) (he : ∀ C s₂ H fp, PE (cxComp X scope NB C s₂ H fp) elt te)
    (hsw : swapsWith (.ListComp elt [⟨tg, iter, ifs, 0⟩] scope pos) (some (.Name y py)) spos.line X.env = pure true := by rfl)
    (hf : X.fn y = true ∨ X.env.scope.names.lookup y = some .local := by first | exact .inl rfl | exact .inr rfl | assumption)
    (hS : chkS scope sc = true := by decide +kernel) (hN : chk N scope NB src = true := by decide +kernel) (hsc : X.env.scope = sc := by rfl) (hXN : X.N = N := by rfl)
    (hs : ∀ x, foldedSetIterable iter X.env x = pure x := by intro _; rfl) : PS X (.Assign [.Name y py] (.ListComp elt [⟨tg, iter, ifs, 0⟩] scope pos) spos) (tAsg (tComp src wi g tt te) (gName i)) := by
  intro pins s σ H D I h
  obtain ⟨hkind, hcell, hnames, hfree⟩ := chkS_of hS
  rw [exec_Assign_Name_used _ _ _ _ hsw]
  refine wpAny_bind (wpAny_standAt (wpAny_bind ?_))
  show wpAny _ X.A (do let _ ← comprehension (.ListComp elt [⟨tg, iter, ifs, 0⟩] scope pos) scope X.env _ (newList []) false (eval iter X.env) (some (assign (.Name y py) X.env))) _ _ s
  refine wpAny_bind (wpAny_mono (wpAny_comprehension_free (use := some (assign (.Name y py) X.env)) (Q := fun _ s' => SP X pins D .next s') rfl hs
    (closure_is fun z hz k => I.ok.has z.1 (by have := hfree z hz k; rw [← hsc] at this; exact this)) hkind hnames (thn (hit pins s σ H _ I h) fun v s1 h1 => thn h1 fun itv s2 h2 => ?_)) (fun _ s' hq => wpAny_pure (wpAny_pure hq)) fun _ _ e => e)
  obtain ⟨it, fp, tn, J, H2, rfl, I2, T, st2, f2, q⟩ := h2
  refine comp_core hS hN hsc hXN hc hg hi he I2 T st2 f2 q (RR := fun acc C => compPost (model X.prog X.w) X.A X.xe (some (assign (.Name y py) X.env)) (fun _ s' => SP X pins D .next s') acc C) ?_
  intro Dd C s' H' I' q' hm hC h1 h2 h3 h4
  obtain ⟨m, hm⟩ := hm
  show wpAny _ X.A (assign (.Name y py) X.env (.ref Dd)) _ _ _
  refine wpAny_assign_Name (store_ok2 (v := .ref Dd) I' hNd hyi hy rfl (fun s3 I3 hz => ?_) hf)
  obtain ⟨a, hsb, ha⟩ := hz
  have hCa : C ≠ a := by
    rcases ha with z | z
    · rw [z]; exact h1
    · exact Ne.symm (h3 _ _ z)
  refine ⟨m, hm.sameBut hsb hCa, fun h' hs' => ?_⟩
  exact ⟨_, H', I3.turned (t' := s3.toks) (fun b o hb e => (hs'.2 b hb).trans e) hC h1 (.inr h2) h3 h4, q'⟩
end
end L3
namespace L3
open PySem PySem.Spec PyProof.Rows L2
section
variable {K : PySem.W.Frag} {a : Addr} {xs : List V} {g : TG} {tt : TT} {te : TE} {Q : VK} {D : Addr} {σ : St} {H : Hp}
theorem comp_list (Pv : Nat → List V → St → Hp → Prop) (h0 : Pv 0 [] σ (upd H D (.lst []))) (hl : ∀ i ys σ H, i ≤ xs.length → Pv i ys σ H → SqL K H a xs)
    (hs : ∀ i x ys σ H, xs[i]? = some x → Pv i ys σ H → g x σ H fun σ3 H3 => tt σ3 H3 fun b H4 => if b = true then te σ3 H4 fun v H5 => H5 D = some (.lst ys) ∧ ys.length < sizeLine ∧ Pv (i + 1) (ys ++ [v]) σ3 (upd H5 D (.lst (ys ++ [v]))) else Pv (i + 1) ys σ3 H4)
    (hd : ∀ ys σ H, Pv xs.length ys σ H → Q (.ref D) H) : CompW (Itl K a) g tt te Q D σ H := by
  refine ⟨fun i m ys σ H => m = xs.length - i ∧ i ≤ xs.length ∧ Pv i ys σ H, ⟨xs.length, by simp, Nat.zero_le _, h0⟩, ?_⟩
  rintro i m ys σ H ⟨rfl, hi, p⟩
  have q := hl i ys σ H hi p
  by_cases hlt : i < xs.length
  · refine .inr ⟨⟨xs, xs[i], q, by simp [hlt]⟩, Pv (i + 1), fun ys' σ' H' p' => ⟨xs.length - (i + 1), by omega, rfl, hlt, p'⟩, fun x H' y => ?_⟩
    obtain ⟨e, y⟩ := y
    subst e
    exact hs i x ys σ _ (y xs q) p
  · have e : i = xs.length := by omega
    subst e
    exact .inl ⟨⟨xs, q, Nat.le_refl _⟩, hd ys σ H p⟩
theorem comp_range {lo : Int} {n : Nat} (Pv : Nat → List V → St → Hp → Prop) (h0 : Pv 0 [] σ (upd H D (.lst [])))
    (hs : ∀ i ys σ H, i < n → Pv i ys σ H → g (.int (lo + i)) σ H fun σ3 H3 => tt σ3 H3 fun b H4 => if b = true then te σ3 H4 fun v H5 => H5 D = some (.lst ys) ∧ ys.length < sizeLine ∧ Pv (i + 1) (ys ++ [v]) σ3 (upd H5 D (.lst (ys ++ [v]))) else Pv (i + 1) ys σ3 H4)
    (hd : ∀ ys σ H, Pv n ys σ H → Q (.ref D) H) : CompW (Itr lo n) g tt te Q D σ H := by
  refine ⟨fun i m ys σ H => m = n - i ∧ i ≤ n ∧ Pv i ys σ H, ⟨n, by simp, Nat.zero_le _, h0⟩, ?_⟩
  rintro i m ys σ H ⟨rfl, hi, p⟩
  by_cases hlt : i < n
  · refine .inr ⟨hlt, Pv (i + 1), fun ys' σ' H' p' => ⟨n - (i + 1), by omega, rfl, hlt, p'⟩, fun x H' y => ?_⟩
    obtain ⟨e, y⟩ := y
    subst e y
    exact hs i ys σ _ hlt p
  · have e : i = n := by omega
    subst e
    exact .inl ⟨Nat.le_refl _, hd ys σ H p⟩
theorem comp_enum (Pv : Nat → List V → St → Hp → Prop) (h0 : Pv 0 [] σ (upd H D (.lst []))) (hl : ∀ i ys σ H, i ≤ xs.length → Pv i ys σ H → SqL K H a xs)
    (hs : ∀ i x ys σ H p, xs[i]? = some x → Pv i ys σ H → H p = none → g (.ref p) σ (upd H p (.tup [.int (i : Int), x])) fun σ3 H3 => tt σ3 H3 fun b H4 => if b = true then te σ3 H4 fun v H5 => H5 D = some (.lst ys) ∧ ys.length < sizeLine ∧ Pv (i + 1) (ys ++ [v]) σ3 (upd H5 D (.lst (ys ++ [v]))) else Pv (i + 1) ys σ3 H4)
    (hd : ∀ ys σ H, Pv xs.length ys σ H → Q (.ref D) H) : CompW (Ite K a) g tt te Q D σ H := by
  refine ⟨fun i m ys σ H => m = xs.length - i ∧ i ≤ xs.length ∧ Pv i ys σ H, ⟨xs.length, by simp, Nat.zero_le _, h0⟩, ?_⟩
  rintro i m ys σ H ⟨rfl, hi, p⟩
  have q := hl i ys σ H hi p
  by_cases hlt : i < xs.length
  · refine .inr ⟨⟨xs, xs[i], q, by simp [hlt]⟩, Pv (i + 1), fun ys' σ' H' p' => ⟨xs.length - (i + 1), by omega, rfl, hlt, p'⟩, fun x H' y => ?_⟩
    obtain ⟨pp, v, rfl, hn, rfl, y⟩ := y
    exact hs i v ys σ _ pp (y xs q) p hn
  · have e : i = xs.length := by omega
    subst e
    exact .inl ⟨⟨xs, q, Nat.le_refl _⟩, hd ys σ H p⟩
end
end L3

set_option Elab.async false
set_option linter.all false
set_option maxRecDepth 100000
set_option maxHeartbeats 4000000
namespace L3
open PySem PySem.Spec PyProof.Rows L2

structure LLr (H : Hp) (p : Addr) (ps : List Addr) (L : List (List Int)) : Prop where
  len : ps.length = L.length
  at' : H p = some (.lst (ps.map V.ref))
  each : ∀ k : Nat, k < L.length → H (ps.getD k 0) = some (.lst ((L.getD k []).map V.int))
structure LL (H H' : Hp) (p : Addr) (ps : List Addr) (L : List (List Int)) : Prop where
  rd : LLr H' p ps L
  fresh : ∀ x ∈ ps, H x = none
  nd : ps.Nodup
  np : p ∉ ps
theorem LLr.same {H H' : Hp} {p : Addr} {ps : List Addr} {L : List (List Int)} (h : LLr H p ps L) (e : Same H H') : LLr H' p ps L := ⟨h.len, e _ _ h.at', fun k hk => e _ _ (h.each k hk)⟩
def dLL (L : List (List Int)) : List PyData := L.map fun l => PyData.list (l.map PyData.int)
theorem rd_lls {K : PySem.W.Frag} {H : Hp} : ∀ (ps : List Addr) (L : List (List Int)), ps.length = L.length → (∀ k : Nat, k < L.length → H (ps.getD k 0) = some (.lst ((L.getD k []).map V.int))) → RdDs K H (ps.map V.ref) (dLL L)
  | [], [], _, _ => by unfold dLL; rw [List.map_nil, List.map_nil, RdDs]; trivial
  | [], _ :: _, h, _ => by cases h
  | _ :: _, [], h, _ => by cases h
  | p :: ps, l :: L, h, e => by
    unfold dLL
    rw [List.map_cons, List.map_cons, RdDs]
    refine ⟨rd_list (SqL.of (e 0 (Nat.zero_lt_succ _))), rd_lls ps L (Nat.succ.inj h) fun k hk => ?_⟩
    have := e (k + 1) (Nat.succ_lt_succ hk)
    rw [List.getD_cons_succ, List.getD_cons_succ] at this
    exact this
theorem rd_ll {K : PySem.W.Frag} {H : Hp} {p : Addr} {ps : List Addr} {L : List (List Int)} (h : LLr H p ps L) : RdD K H (.ref p) (.list (dLL L)) := by
  rw [RdD]
  exact ⟨p, _, rfl, SqL.of h.at', rd_lls ps L h.len h.each⟩
theorem lay_ll : ∀ L : List (List Int), PyData.canLayAll0 (dLL L) = true
  | [] => rfl
  | l :: L => by
    have := lay_ll L
    unfold dLL at this ⊢
    rw [List.map_cons, PyData.canLayAll0, PyData.canLay0, lay_ints, this]; rfl
theorem depth_ll : ∀ L : List (List Int), PyData.depthAll (dLL L) ≤ 1
  | [] => Nat.zero_le _
  | l :: L => by
    have := depth_ll L
    unfold dLL at this ⊢
    rw [List.map_cons, PyData.depthAll, depth_list]
    omega
section
variable {X : Cx}
end
theorem iteB {c : Bool} {A B : Prop} (hc : c = true) (h : A) : if c = true then A else B := by rw [if_pos hc]; exact h
theorem iteC {c : Bool} {A B : Prop} (hc : c = false) (h : B) : if c = true then A else B := by rw [if_neg (by rw [hc]; decide)]; exact h
theorem same_upd {H H' : Hp} {p : Addr} {o : HO} (e : Same H H') (h : H p = none) : Same H (upd H' p o) := fun b u z => by rw [upd_ne (ne_of_none z h)]; exact e b u z
end L3

set_option Elab.async false
set_option linter.all false
set_option maxRecDepth 100000
set_option maxHeartbeats 4000000
namespace L3
open PySem PySem.Spec PyProof.Rows L2

theorem lri_nolen : typeLookup (.type "list_reverseiterator") "__len__" = pure none := by rw [typeLookup_type, builtinLookup_eq_fast]; kernel_rfl
theorem lri_hint : typeLookup (.type "list_reverseiterator") "__length_hint__" = pure (some (.builtin "list_reverseiterator.__length_hint__")) := by rw [typeLookup_type, builtinLookup_eq_fast]; kernel_rfl
section
variable {prog : Program} {w : World} {A : Around} {E : Value → Shared → Prop} {s : Shared} {I : Addr}
theorem hint_rev {Q : Bool → Shared → Prop} (hT : s.TypeIs (.ref I) "list_reverseiterator") (h : Q false s) : wpAny (model prog w) A (Builtin.List.listLengthHint (.ref I)) Q E s := by
  unfold Builtin.List.listLengthHint
  refine wpAny_bind (wpAny_specialOf hT lri_nolen ?_)
  show wpAny _ A (specialOf (Value.ref I) (Str.ofString "__length_hint__") >>= _) _ _ _
  refine wpAny_bind (wpAny_specialOf hT lri_hint ?_)
  generalize hid : ("list_reverseiterator.__length_hint__" : String) = id0
  wp_delta
  rw [show splitId id0 = some ("list_reverseiterator", "__length_hint__") from by subst hid; decide +kernel]
  subst hid
  refine wpAny_bind (wpAny_isInstance (b := true) hT (by rw [isSubtype_type]; kernel_rfl) ?_)
  exact wpAny_pure h
end
section
variable {prog : Program} {w : World} {A : Around} {E : Value → Shared → Prop} {s : Shared} {l I : Addr} {items : Array Value}
theorem call_list_rev {Q : Value → Shared → Prop} (hh : A.handled = none) (hne : l ≠ I) (hit : s.heap.IsRevIter I l ((items.size : Int) - 1)) (hl : s.heap.IsList l items) (hn : items.size ≤ sizeLine)
    (hQ : ∀ (h' : Heap) (tk : Nat) (acc : Array Value) (c : Nat), (∀ b o, b ≠ I → s.heap.get? b = some o → h'.get? b = some o) → h'.get? s.heap.objs.size = some { cls := .type "list", dict := none, data := .seq acc c, slots := #[] } →
      ItemsOf (fun i v => items[items.size - 1 - i]? = some v) acc items.size → Q (.ref s.heap.objs.size) { s with heap := h', toks := tk }) :
    wpAny (model prog w) A (call (.type "list") [.ref I]) Q E s := by
  refine callType_codes (Q₁ := fun obj s₁ => obj = .ref s.heap.objs.size ∧ s₁ = { s with heap := s.heap.push { cls := .type "list", data := .seq #[] } }) F.called_list (F.typeCall_list_1 _) F.entry_list_init
    (code_list_new _ ⟨rfl, rfl⟩) fun obj s₁ h₁ => ?_
  obtain ⟨rfl, rfl⟩ := h₁
  obtain ⟨oI, hoI, _⟩ := id hit
  obtain ⟨ol, hol, _⟩ := id hl
  have hIl : I < s.heap.objs.size := Heap.lt_size hoI
  have hll : l < s.heap.objs.size := Heap.lt_size hol
  have hSI : s.heap.objs.size ≠ I := Nat.ne_of_gt hIl
  have hSl : s.heap.objs.size ≠ l := Nat.ne_of_gt hll
  have hS : (s.heap.push { cls := .type "list", data := .seq #[] }).get? s.heap.objs.size = some { cls := .type "list", data := .seq #[] } := Heap.get?_push_size _ rfl
  have W := (Walks.listRev (prog := prog) (w := w) (A := A.in1.in1) hh I l hne items).toS
  refine ⟨⟨_, hS, rfl⟩, F.args_list_init_2 _ _, ?_⟩
  show wpAny _ A.in1.in1 (do let old ← Builtin.List.listItems (.ref s.heap.objs.size); Builtin.List.listUpdate (.ref s.heap.objs.size) (fun _ => #[]); letGo old.toList.reverse; Builtin.List.listExtendWith (.ref s.heap.objs.size) (.ref I) .none) _ _ _
  refine wpAny_bind ?_
  unfold Builtin.List.listItems
  refine wpAny_bind (wpAny_seqItems hS rfl (wpAny_pure ?_))
  show wpAny _ _ (updateSeq s.heap.objs.size (fun _ => #[]) >>= fun _ => letGo (#[] : Array Value).toList.reverse >>= fun _ => Builtin.List.listExtendWith (.ref s.heap.objs.size) (.ref I) .none) _ _ _
  refine wpAny_bind (wpAny_updateSeq hS rfl ?_)
  have hS2 := Heap.get?_update_self (Obj.mapSeq (fun _ => (#[] : Array Value))) hS rfl
  have oth : ∀ b o, s.heap.get? b = some o → ((s.heap.push { cls := .type "list", data := .seq #[] }).update s.heap.objs.size (Obj.mapSeq (fun _ => (#[] : Array Value)))).get? b = some o :=
    fun b o e => (Heap.get?_update_other _ _ (Ne.symm (Nat.ne_of_lt (Heap.lt_size e)))).trans (Heap.get?_push_of_some _ e)
  refine wpAny_bind (wpAny_letGo ?_)
  have hit2 := hit.at fun o e => oth I o e
  have hl2 := hl.at fun o e => oth l o e
  have hTI : Shared.TypeIs { s with heap := (s.heap.push { cls := .type "list", data := .seq #[] }).update s.heap.objs.size (Obj.mapSeq (fun _ => (#[] : Array Value))) } (.ref I) "list_reverseiterator" := by
    obtain ⟨o, ho, hc, _⟩ := hit2
    exact ⟨o, ho, hc⟩
  unfold Builtin.List.listExtendWith
  refine wpAny_bind (wpAny_typeOf (T := "list_reverseiterator") hTI ?_)
  have h1 : Builtin.List.listSameRef (.ref s.heap.objs.size) (.ref I) = false := by simp [Builtin.List.listSameRef, hSI]
  have h2 : (Value.type "list_reverseiterator" == Value.type "list") = false := by decide
  have h3 : (Value.type "list_reverseiterator" == Value.type "tuple") = false := by decide
  simp only [h1, h2, h3, Bool.or_false, Bool.false_eq_true, if_false]
  refine wpAny_bind (wpAny_pyIter_revIter hit2 ?_)
  refine wpAny_bind (wpAny_holding (hint_rev hTI ?_))
  rw [if_neg (by decide)]
  refine wpAny_pure ⟨plainId_quiet F.plain_extend_loop _, codeAny_extend_loopS W hn s.heap.objs.size ?_ .none items.size 0 _ #[] _ rfl (Nat.zero_le _) ⟨Nat.zero_le _, ?_, hl2⟩ hS2 (ItemsOf.nil _) fun s' acc' c' hm hS' hacc => ?_⟩
  · intro hm
    rcases List.mem_cons.mp hm with z | z
    · exact hSI z
    · exact hSl (List.mem_singleton.mp z)
  · have e : (items.size : Int) - 1 - ((0 : Nat) : Int) = (items.size : Int) - 1 := by omega
    rw [e]; exact hit2
  · rw [Moved.eq_with hm]
    refine ⟨rfl, hQ s'.heap s'.toks acc' c' (fun b o hb e => hm.heap b o (fun hmem => ?_) (oth b o e)) hS' hacc⟩
    rcases List.mem_cons.mp hmem with z | z
    · exact Nat.ne_of_lt (Heap.lt_size e) z
    · exact hb (List.mem_singleton.mp z)
end
theorem items_rev {items : List Value} {acc : Array Value} (h : ItemsOf (fun i v => items.toArray[items.toArray.size - 1 - i]? = some v) acc items.toArray.size) : acc.toList = items.reverse := by
  obtain ⟨h1, h2⟩ := h
  rw [List.size_toArray] at h1 h2
  refine List.ext_getElem (by rw [List.length_reverse, Array.length_toList]; exact h1) fun j a b => ?_
  have hj : acc[j]? = some (acc.toList[j]) := by rw [← Array.getElem?_toList]; exact List.getElem?_eq_getElem a
  have := h2 j _ hj
  rw [List.getElem_reverse]
  have e : items[items.length - 1 - j]? = some (acc.toList[j]) := by simpa using this
  obtain ⟨_, e2⟩ := List.getElem?_eq_some_iff.mp e
  exact e2.symm
section
variable {X : Cx}
def tListRev (K : PySem.W.Frag) (ta : TA) : TE := fun σ H Q => ta σ H fun vs H1 => ∃ a ys, vs = [.ref a] ∧ SqL K H1 a ys ∧ ∀ l, H1 l = none → Q (.ref l) (upd H1 l (.lst ys.reverse))
theorem pe_listRev {e : Expr} {ta : TA} {p p2 pos pos2 : Pos} (hc : X.calm = true) (hg : Gl X "list") (hm : X.mg "list" = none) (hg2 : Gl X "reversed") (hm2 : X.mg "reversed" = none) (ha : PA X [e] ta)
    (hs : starEach [.Call (.Name "reversed" p2) [e] [] pos2] X.env = [(false, eval (.Call (.Name "reversed" p2) [e] [] pos2) X.env)] := by rfl) (hs2 : starEach [e] X.env = [(false, eval e X.env)] := by rfl) :
    PE X (.Call (.Name "list" p) [.Call (.Name "reversed" p2) [e] [] pos2] [] pos) (tListRev X.K ta) := by
  intro pins s σ H Q I h
  refine wpAny_Call_Name_kw (ld_blt I hg hm boot_list ?_ (by decide) (by decide))
  refine PyProof.Rows.callWith_type1 ?_ hs rfl
  rw [hs]
  show wpAny _ _ (spliced ((false, eval (.Call (.Name "reversed" p2) [e] [] pos2) X.env) :: backTo pos (starEach [] X.env))) _ _ s
  refine Calls.spliced_cons ?_
  refine wpAny_Call_Name_kw (ld_blt I hg2 hm2 boot_reversed ?_ (by decide) (by decide))
  refine PyProof.Rows.callWith_type1 (thn (ha pos2 pins s σ H _ I h) fun us s1 h1 => ?_) hs2 rfl
  obtain ⟨vs, H1, I1, r1, a, ys, rfl, hq, q⟩ := h1
  obtain ⟨u, rfl, rx⟩ := vals1 r1
  cases rx
  obtain ⟨its, rv, pl, hz⟩ := I1.list hq
  have hlen := rv.length
  refine call_reversed_list pl.isList ?_
  refine Calls.spliced_nil ?_
  have hal : a < s1.heap.objs.size := by
    obtain ⟨o, ho, _⟩ := pl.isList
    exact Heap.lt_size ho
  have I2 : Inv X pins σ H1 { s1 with heap := s1.heap.push (revObj a ((its.toArray.size : Int) - 1)) } := I1.kept (t' := s1.toks) fun b o z => Heap.get?_push_of_some _ z
  refine call_list_rev (s := { s1 with heap := s1.heap.push (revObj a ((its.toArray.size : Int) - 1)) }) (l := a) (items := its.toArray) (I1.ok.hd hc) (Nat.ne_of_lt hal) ⟨_, Heap.get?_push_size _ rfl, rfl, rfl⟩ (pl.isList.at fun o z => Heap.get?_push_of_some _ z) (by rw [List.size_toArray]; omega) fun h' tk acc c hk hS hacc => ?_
  have e1 := items_rev hacc
  have hsz : (s1.heap.push (revObj a ((its.toArray.size : Int) - 1))).objs.size = s1.heap.objs.size + 1 := Heap.size_push ..
  have hn : H1 (s1.heap.push (revObj a ((its.toArray.size : Int) - 1))).objs.size = none := I2.hok.fresh (Nat.le_refl _)
  have I4 : Inv X pins σ (upd H1 (s1.heap.push (revObj a ((its.toArray.size : Int) - 1))).objs.size (.lst ys.reverse)) { s1 with heap := h', toks := tk } :=
    I1.laid (t' := tk) (fun b o z => hk b o (Nat.ne_of_lt (Heap.lt_size z)) (Heap.get?_push_of_some _ z)) (by rw [hsz]; exact Nat.le_succ _)
      (show ObjOk X.prog X.w _ _ _ (.lst ys.reverse) from ⟨by rw [List.length_reverse]; exact hz, its.reverse, c, rv.reverse, by rw [← e1, Array.toArray_toList]; exact hS⟩)
  exact ⟨.ref _, _, I4, rfl, q _ hn⟩
theorem call_sum_ints (hc : X.calm = true) : CallR X (.builtin "sum") (fun xs H Q => ∃ (p : Addr) (ns : List Int), xs = [.ref p] ∧ SqL X.K H p (ns.map V.int) ∧ ns.length ≤ 2 ^ 20 ∧ (∀ x ∈ ns, -(2 ^ 40) ≤ x ∧ x ≤ 2 ^ 40) ∧ Q (.int ns.sum) H) := by
  intro pins s σ H xs us Q I r h
  obtain ⟨p, ns, rfl, hq, h20, h40, q⟩ := h
  obtain ⟨u, rfl, rx⟩ := vals1 r
  cases rx
  obtain ⟨its, r', pl, hz⟩ := I.list hq
  have hI := intsAre_of r'
  obtain ⟨xs, e⟩ := hI.allInts.items
  have hns : ns = xs.toList.map (·.1) := by rw [← hI.numsOf, ← nums_intItems, ← e]
  have hl := pl.isList
  rw [e] at hl
  have hfit := sumFits_small h40 h20
  have hnum : ∀ j, numAt xs j = ns.getD j 0 := fun j => by rw [hns]; exact numAt_eq xs j
  have hpre : ∀ j, preSum (numAt xs) j = (ns.take j).sum := fun j => by
    have e2 : numAt xs = fun i => ns.getD i 0 := funext hnum
    rw [e2]; exact preSum_getD ns j
  have hsz : ns.length = xs.size := by rw [hns, List.length_map, Array.length_toList]
  refine sum_intList (I.ok.hd hc) hl (fun j hj => ?_) fun h' tk t' hk => ?_
  · rw [hnum, hpre]
    exact hfit j (by omega)
  · refine ⟨.int ns.sum, H, I.kept (t' := tk) hk, ⟨t', ?_⟩, q⟩
    rw [hpre, ← hsz, List.take_length]
end
end L3

set_option Elab.async false
set_option linter.all false
set_option maxRecDepth 100000
set_option maxHeartbeats 4000000
namespace L3
open PySem PySem.Spec PyProof.Rows L2
section
variable {X : Cx} {K : PySem.W.Frag}
theorem pg_tupK {es : List Expr} {k : Nat} {t : TGs} {n : Nat} {pos : Pos} (hK : X.K = K) (hc : X.calm = true) (h : PGs X es t) (hn : (assignEach es X.env).length = n := by rfl) (hst : (assignEach es X.env).findIdx? (·.1) = none := by rfl) : PG X (.Tuple es k pos) (gTup K n t) := by
  subst hK; exact pg_tup hc h hn hst
theorem call_len_seqK (hK : X.K = K) : CallR X (.builtin "len") (fun xs H Q => ∃ p ys, xs = [.ref p] ∧ (SqL K H p ys ∨ SqT K H p ys) ∧ Q (.int ys.length) H) := by subst hK; exact call_len_seq
theorem call_list_ofK (hK : X.K = K) : CallR X (.type "list") (fun xs H Q => ∃ p ys, xs = [.ref p] ∧ (SqL K H p ys ∨ SqT K H p ys) ∧ ∀ l, H l = none → Q (.ref l) (upd H l (.lst ys))) := by subst hK; exact call_list_of
end
end L3

set_option Elab.async false
set_option linter.all false
set_option maxRecDepth 100000
set_option maxHeartbeats 4000000
namespace L3
open PySem PySem.Spec PyProof.Rows L2

theorem objOk_there {P : Program} {w : World} {H : Hp} {h : Heap} {a : Addr} {o : HO} (x : ObjOk P w H h a o) : ∃ u, h.get? a = some u := by
  cases o with
  | lst xs => obtain ⟨_, _, _, _, e⟩ := x; exact ⟨_, e⟩
  | tup xs => obtain ⟨_, _, _, p⟩ := x; obtain ⟨o, e, _⟩ := p; exact ⟨_, e⟩
  | dK kvs => obtain ⟨_, _, _, _, o, _, _, e, _⟩ := x; exact ⟨_, e⟩
  | dT kvs => obtain ⟨_, _, _, _, o, _, _, e, _⟩ := x; exact ⟨_, e⟩
  | set S n => obtain ⟨o, _, _, _, e, _⟩ := x; exact ⟨_, e⟩
  | ins C dx fs => obtain ⟨_, _, _, e, _⟩ := x; exact ⟨_, e⟩
  | own y => exact x
  | xd fs => obtain ⟨_, ⟨_, _, _, e, _⟩, _⟩ := x; exact ⟨_, e⟩
  | rng lo hi => obtain ⟨_, _, _, e⟩ := x; exact ⟨_, e⟩
  | frz ob u => obtain ⟨e, _⟩ := x; exact ⟨_, e⟩
  | tbl ps => exact ⟨_, (show h.get? a = some _ from x)⟩
  | met f y => exact ⟨_, (show h.get? a = some _ from x)⟩
  | ext φ => obtain ⟨_, e, _⟩ := x; exact e

structure Fly (P : Program) (w : World) (outer : List Env) (H : Hp) (s : Shared) (H' : Hp) (a C : Addr) (s' : Shared) : Prop where
  os : s'.os = s.os
  bare : AllBare s'.gens
  un : Un (frs outer) [] H H' s.heap s'.heap
  hok : HOk P w H' s'.heap
  fly : ∃ B a0, Heap.FlyingW B outer a (.ref C) a0 s'.heap ∧ (∀ b o, H' b = some o → ∃ u, B.get? b = some u) ∧ (∀ b o, s.heap.get? b = some o → b ∉ frs outer → ∃ u, B.get? b = some u)
def CX1 (P : Program) (w : World) : CXT := fun outer H s E e s' => ∃ a C H', e = .ref a ∧ Fly P w outer H s H' a C s' ∧ E (.ref C) none H'

theorem fly_move {P : Program} {w : World} {fs : List Addr} {H H' : Hp} {h h1 h2 B : Heap} (un : Un fs [] H H' h h1) (hok : HOk P w H' h1) (k1 : B.StaysIn h1) (hl : ∀ b ∈ fs, ∃ o, h1.get? b = some o ∧ ∀ vs, o.data ≠ .fields vs)
    (c1 : ∀ b o, H' b = some o → ∃ u, B.get? b = some u) (c2 : ∀ b o, h.get? b = some o → b ∉ fs → ∃ u, B.get? b = some u) (k2 : B.StaysIn h2) (sm : h1.UpToSlots h2) : Un fs [] H H' h h2 ∧ HOk P w H' h2 := by
  refine ⟨⟨fun b o q n hb hx => ?_, fun b o q n hb hx => ?_, un.free, fun b o q hx => ?_, un.tups, un.frzs, un.tbls⟩, fun b o e => ?_⟩
  · obtain ⟨u, hu⟩ := c2 b o q hb
    have e1 := un.keep b o q n hb hx
    have e2 := k1 b u hu
    rw [e1] at e2
    cases e2
    exact k2 b o hu
  · obtain ⟨sl, e1⟩ := un.slot b o q n hb hx
    obtain ⟨o', e', nf⟩ := hl b hb
    rw [e1] at e'
    cases e'
    obtain ⟨sl2, e2⟩ := sm b _ e1 nf
    exact ⟨sl2, e2⟩
  · by_cases hb : b ∈ fs
    · obtain ⟨o', e', nf⟩ := hl b hb
      obtain ⟨sl2, e2⟩ := sm b _ e' nf
      exact ⟨_, e2⟩
    · obtain ⟨u, hu⟩ := c2 b o q hb
      exact ⟨u, k2 b u hu⟩
  · have same : ∀ c v u, H' c = some u → h1.get? c = some v → h2.get? c = some v := fun c v u hc q => by
      obtain ⟨z, hz⟩ := c1 c u hc
      have e2 := k1 c z hz
      rw [q] at e2
      cases e2
      exact k2 c v hz
    refine (hok b o e).stay (fun c v hc q => ?_) (fun _ z => z) (fun _ _ z => z)
    rcases hc with z | z
    · exact same c v o (by rw [z]; exact e) q
    · exact same c v _ z q

section
variable {P : Program} {w : World} {K : PySem.W.Frag} {mg : Str → Option Value} {base : Heap} {N : List Str} {qual : Str} {scope : Scope} {f : Addr} {cd : Value} {A : Around} {outer : List Env} {s : Shared} {H : Hp} {E : XK}

theorem fly_leave {pins : List (Addr × Obj)} {σ : St} {H1 H' : Hp} {s1 s' : Shared} {a C : Addr} {a0 : Value} {B h2 : Heap} (I : Inv (cxOf (CX1 P w) P w K mg base N qual scope f cd A outer s H E) pins σ H1 s1)
    (ho : s'.os = s1.os) (hb : AllBare s'.gens) (un : Un (frs (envOfC qual scope s.heap.objs.size f cd :: outer)) [] H1 H' s1.heap h2) (hok : HOk P w H' h2)
    (fly : Heap.FlyingW B outer a (.ref C) a0 h2) (c1 : ∀ b o, H' b = some o → ∃ u, B.get? b = some u)
    (c2 : ∀ b o, s1.heap.get? b = some o → b ∉ frs (envOfC qual scope s.heap.objs.size f cd :: outer) → ∃ u, B.get? b = some u) (hE : E (.ref C) none H') :
    CX1 P w outer H s E (.ref a) { s' with heap := h2 } := by
  have I2 : Inv (cxOf (CX1 P w) P w K mg base N qual scope f cd A outer s H E) pins σ H' { s' with heap := h2 } := I.call' (s' := { s' with heap := h2 }) (ch := []) ho un hok hb (fun b z => absurd z (by simp))
  refine ⟨a, C, H', rfl, ⟨I2.os, hb, I2.base, hok, B, a0, fly, c1, fun b o q hn => ?_⟩, hE⟩
  obtain ⟨o', e'⟩ := I.base.there b o q (by intro z; exact absurd (show b ∈ ([] : List Addr) from z) (by simp))
  refine c2 b o' e' fun hm => ?_
  rcases List.mem_cons.mp (show b ∈ s.heap.objs.size :: frs outer from hm) with z | z
  · exact absurd (Heap.lt_size q) (by rw [z]; exact Nat.lt_irrefl _)
  · exact hn z

theorem pass1 : Passes (CX1 P w) (cxOf (CX1 P w) P w K mg base N qual scope f cd A outer s H E) E := by
  rintro pins σ H1 s1 e s' I ⟨a, C, H', rfl, F, hE⟩
  obtain ⟨B, a0, hf, c1, c2⟩ := F.fly
  show wpAny (model P w) (A.deeper (envOfC qual scope s.heap.objs.size f cd)) (leaving (envOfC qual scope s.heap.objs.size f cd) (.ref a)) _ _ s'
  refine wpAny_leaves_onW (outer := outer) I.ok.frames rfl hf fun h2 hf2 sm => ?_
  obtain ⟨un2, hok2⟩ := fly_move F.un F.hok hf.1 (fun b hb => (hf.2.2.1.mem hb).2) c1 c2 hf2.1 sm
  exact fly_leave I F.os F.bare un2 hok2 hf2 c1 c2 hE

theorem raise_leaves {pins : List (Addr × Obj)} {σ : St} {H1 : Hp} {s1 : Shared} {C e : Addr} {h' : Heap} {vs : List Value} (I : Inv (cxOf (CX1 P w) P w K mg base N qual scope f cd A outer s H E) pins σ H1 s1)
    (hx : Heap.MadeExcOf s1.heap h' e (.ref C) vs) (hE : E (.ref C) none H1) : (cxOf (CX1 P w) P w K mg base N qual scope f cd A outer s H E).xe (.ref e) { s1 with heap := h' } := by
  show wpAny (model P w) (A.deeper (envOfC qual scope s.heap.objs.size f cd)) (leaving (envOfC qual scope s.heap.objs.size f cd) (.ref e)) _ _ { s1 with heap := h' }
  have hstk : s1.heap.FunFrames base (envOfC qual scope s.heap.objs.size f cd :: outer) := I.stack
  have hB : (PySem.W.hideAll s1.heap (frs (envOfC qual scope s.heap.objs.size f cd :: outer))).StaysIn s1.heap := fun b o q => PySem.W.of_hideAll _ q
  refine wpAny_leaves_madeW (base := PySem.W.hideAll s1.heap (frs (envOfC qual scope s.heap.objs.size f cd :: outer))) (h := s1.heap) (outer := outer) I.ok.frames rfl hB
    (PySem.W.funFrames_hide hstk fun env he b hb => List.mem_filterMap.mpr ⟨env, he, hb⟩) hx fun h2 t fly _ _ sm => ?_
  have c1 : ∀ b o, H1 b = some o → ∃ u, (PySem.W.hideAll s1.heap (frs (envOfC qual scope s.heap.objs.size f cd :: outer))).get? b = some u := fun b o q => by
    obtain ⟨u, hu⟩ := objOk_there (I.hok b o q)
    exact ⟨u, PySem.W.hideAll_get _ hu fun hm => by rw [I.stkFree b hm] at q; cases q⟩
  have c2 : ∀ b o, s1.heap.get? b = some o → b ∉ frs (envOfC qual scope s.heap.objs.size f cd :: outer) → ∃ u, (PySem.W.hideAll s1.heap (frs (envOfC qual scope s.heap.objs.size f cd :: outer))).get? b = some u := fun b o q hn => ⟨o, PySem.W.hideAll_get _ q hn⟩
  obtain ⟨un2, hok2⟩ := fly_move (h := s1.heap) (h1 := h') (h2 := h2) (Un.kept hx.keeps) (I.hok.kept hx.keeps) (fun b o q => hx.keeps b o (hB b o q))
    (fun b hb => by
      obtain ⟨_, o, ho, nf⟩ := hstk.mem hb
      exact ⟨o, hx.keeps b o ho, nf⟩) c1 c2 fly.1 sm
  exact fly_leave (s' := s1) I rfl I.bare un2 hok2 fly c1 c2 hE
end

abbrev bmV : List Value := [.type "ValueError", .type "Exception", .type "BaseException", .type "object"]
theorem own_cls {K : PySem.W.Frag} {h : Heap} {mg : Str → Option Value} {x : Str} {C : Addr} {bmB : List Value} {newId : String} (KX : K.In h) (hx : mg x = some (.ref C)) (z : PySem.W.excIn K C bmB newId = true) : OwnCls x C bmB newId mg h := by
  refine ⟨hx, ?_⟩
  unfold PySem.W.excIn at z
  split at z
  · next dd cd sl ho =>
    split at z
    · next C' bm k0 k1 k2 k3 n k5 hm hs =>
      simp only [Bool.and_eq_true, beq_iff_eq, Bool.not_eq_true'] at z
      obtain ⟨⟨⟨⟨⟨z1, z2⟩, z3⟩, z4⟩, z5⟩, z6⟩ := z
      subst z1
      subst z2
      obtain ⟨nm, bs, mro, ns, qn, hd, sn, sub, ab, col, del⟩ := cd
      dsimp only at hm z3 z5 z6
      subst hm
      subst z3
      obtain ⟨l⟩ := sl
      simp only at hs
      subst hs
      refine ⟨bm, ns, nm, qn, bs, hd, sn, sub, ab, col, dd, k0, k1, k2, k3, k5, h.nsMap ns, ?_, ?_, ?_, ?_⟩
      · exact KX _ _ ho
      · exact .of_isNs (PySem.W.isNs_of_in KX z5)
      · exact PySem.W.nsMap_none_of_in KX z5 z6
      · exact PySem.W.tail_of_in KX z4
    · cases z
  · cases z

section
variable {P : Program} {w : World} {K : PySem.W.Frag} {mg : Str → Option Value} {base : Heap} {N : List Str} {qual : Str} {scope : Scope} {f : Addr} {cd : Value} {A : Around} {outer : List Env} {s : Shared} {H : Hp} {E : XK}
def tRaise (C : Addr) (E : XK) (t : TA) : TS := fun _ σ H => t σ H fun vs H1 => vs.length ≤ sizeLine ∧ E (.ref C) none H1
theorem ps_raise {x : Str} {C : Addr} {np cpos pos : Pos} {e : Expr} {es : List Expr} {t : TA} (hg : Gl (cxOf (CX1 P w) P w K mg base N qual scope f cd A outer s H E) x) (hm : mg x = some (.ref C)) (hc : PySem.W.excIn K C bmV "ValueError.__new__" = true)
    (ha : PA (cxOf (CX1 P w) P w K mg base N qual scope f cd A outer s H E) (e :: es) t) (hdb : (x == ("__debug__" : Str)) = false := by decide)
    (he : starEach (e :: es) (envOfC qual scope s.heap.objs.size f cd) = (false, eval e (envOfC qual scope s.heap.objs.size f cd)) :: starEach es (envOfC qual scope s.heap.objs.size f cd) := by rfl)
    (hpl : (backTo cpos (starEach (e :: es) (envOfC qual scope s.heap.objs.size f cd))).any (·.1) = false := by rfl) :
    PS (cxOf (CX1 P w) P w K mg base N qual scope f cd A outer s H E) (.Raise (some (.Call (.Name x np) (e :: es) [] cpos)) none pos) (tRaise C E t) := by
  intro pins s1 σ H1 D I h
  have O : OwnCls x C bmV "ValueError.__new__" mg base := own_cls I.mod.kin hm hc
  obtain ⟨tl, N', nm, q, bs, hdct, sn, sub, ab, col, dd, k0, k1, k2, k3, k5, mN, hC, hN, hni, T⟩ := O.obj
  have hh : (cxOf (CX1 P w) P w K mg base N qual scope f cd A outer s H E).A.handled = none := I.ok.hd rfl
  refine wpAny_Raise_call_subT (C := C) (nm := nm) (q := q) (N := N') (bs := bs) (bm := tl) (hdct := hdct) (sn := sn) (sub := sub) (ab := ab) (col := col) (dd := dd) (k0 := k0) (k1 := k1) (k2 := k2) (k3 := k3) (k5 := k5)
    PySem.F.excBase_ValueError (mN := mN) (T.hasType PySem.F.excBase_ValueError.hasBase) hh hpl hni (ld_glob I hg hm ⟨rfl, ?_⟩ hdb)
  have h' := ha cpos pins s1 σ H1 _ I h
  change wpAny _ _ (spliced (backTo cpos (starEach (e :: es) (envOfC qual scope s.heap.objs.size f cd)))) _ _ _ at h'
  show wpAny _ _ (evalArgs (.ref C) true (backTo cpos (starEach (e :: es) (envOfC qual scope s.heap.objs.size f cd))) []) _ _ _
  rw [he] at h' ⊢
  exact Calls.evalArgs_plain (wpAny_mono h' (fun vs s2 ⟨ws, H2, I2, r, hl, hE⟩ => ⟨rfl, by rw [← r.length]; exact hl, I2.bk _ _ hC, hN.keeps I2.bk, T.keeps I2.bk, fun h3 e3 hm3 => raise_leaves I2 hm3 hE⟩) fun _ _ y => y)
end

theorem Fun.okX {P : Program} {w : World} {K : PySem.W.Frag} {mg : Str → Option Value} {base : Heap} {x qual : Str} {st : Stmt} {f : Addr} {fd : FuncData} {N ps : List Str} {k : Nat} {sp : Sp} (F : L2.Fun K x qual st f fd) (S : FnScope N ps (defScope st)) (len : ∀ vs H Q E, sp vs H Q E → vs.length = ps.length)
    (hbody : ∀ (cdv : Value) (A : Around) (outer : List Env) (s : Shared) (H : Hp) (vs : List V) (Q : VK) (E : XK), Room k (A.deeper (envOfC qual (defScope st) s.heap.objs.size f cdv)) → sp vs H Q E →
      ∃ t, PSs (cxOf (CX1 P w) P w K mg base N qual (defScope st) f cdv A outer s H E) (defBody st) t ∧ t { nx := fun _ H' => Q .non H', rt := Q } (start N vs) H) : FnOk P w K mg base (CX1 P w) (k + 1) f fd ps sp := by
  obtain ⟨oc, od, kV, doc, pm, an, cdv, ct, osl, rfl, lk, hcd⟩ := F.ex
  exact fn_of lk hcd S len fun A outer s H vs Q E hr hsp => hbody cdv A outer s H vs Q E hr hsp
theorem FnOk.to0 {P : Program} {w : World} {K : PySem.W.Frag} {mg : Str → Option Value} {base : Heap} {k : Nat} {f : Addr} {fd : FuncData} {ps : List Str} {sp sp' : Sp} (F : FnOk P w K mg base (CX1 P w) k f fd ps sp) (h : ∀ vs H Q E, sp' vs H Q E → sp vs H Q E0) : FnOk P w K mg base CX0 k f fd ps sp' :=
  ⟨fun vs H Q E q => F.len vs H Q _ (h _ _ _ _ q), fun A outer s H args us vs Q E hr he hb hv hs => codeAny_mono (F.run A outer s H args us vs Q E0 hr he hb hv (h _ _ _ _ hs)) fun r s' h => by
    cases r with
    | error e => obtain ⟨_, _, _, _, _, z⟩ := h; exact z
    | ok fl => cases fl <;> exact h⟩

section
variable {X : Cx} {k : Nat} {f : Addr} {fd : FuncData} {ps : List Str} {sp : Sp} {dvs : List V} {ds : List Value} {x : Str} {p pos : Pos} {e : Expr} {es : List Expr} {t : TA}
end

section
variable {X : Cx} {pins : List (Addr × Obj)} {σ : St} {H : Hp} {s : Shared} {e : Value}
end

end L3

set_option Elab.async false
set_option linter.all false
set_option maxRecDepth 100000
set_option maxHeartbeats 4000000
namespace L3
open PySem PySem.Spec PyProof.Rows L2

structure ExcK (K : PySem.W.Frag) (C : Addr) : Prop where
  ga : PySem.W.findIn K (.ref C) "__getattribute__" = some (some (.builtin "BaseException.__getattribute__"))
  gt : PySem.W.findIn K (.ref C) "__getattr__" = some none
  cl : PySem.W.findIn K (.ref C) "__class__" = some (some (.builtin "object.__class__"))
  sb : PySem.W.subIn K (.ref C) (.type "BaseException") = some true
  so : PySem.W.subIn K (.ref C) (.type "object") = some true
  hc : (PySem.W.clsIn K C).isSome = true

section
variable {prog : Program} {w : World} {A : Around} {E : Value → Shared → Prop} {h : Heap} {g : Array GenState} {d : Drawn} {t : Nat} {os : OsState} {a C : Addr} {o : Obj} {K : PySem.W.Frag}

end

section
variable {X : Cx}
def Itv (K : PySem.W.Frag) (a : Addr) (n : Nat) : It :=
  ⟨fun i H => i < n ∧ ∃ xs, SqL K H a xs ∧ xs.length = n, fun i H x H' => H' = H ∧ ∀ xs, SqL K H a xs → xs[n - 1 - i]? = some x, fun i H => i = n⟩
theorem turn_rev {P : Program} {w : World} {K : PySem.W.Frag} {tg : Expr} (a it : Addr) (n : Nat) : Turn P w K tg (Itv K a n) [it] it (fun i h => h.IsRevIter it a ((n : Int) - 1 - (i : Int))) where
  mem := by simp
  obj := fun i h st b hb => by
    have e : b = it := by simpa using hb
    subst e
    obtain ⟨o, e, c, d⟩ := st
    exact ⟨o, e, fun v z => by rw [d] at z; cases z⟩
  keep := fun i h h' st k => st.at fun o e => k it (by simp) o e
  item := by
    intro X hP hw hK hc i pins s σ H E I hf st hg
    subst hP hw hK
    obtain ⟨hi, xs, hq, hn⟩ := hg
    obtain ⟨its, rv, p, hz⟩ := I.list hq
    have hx : xs[n - 1 - i]? = some (xs[n - 1 - i]'(by omega)) := List.getElem?_eq_getElem _
    obtain ⟨u, hu, ru⟩ := rv.get hx
    obtain ⟨f0, f1, f2, f3, f4, f5⟩ := hf it (by simp)
    have e1 : (n : Int) - 1 - (i : Int) = ((n - 1 - i : Nat) : Int) := by omega
    rw [e1] at st
    refine wpAny_pyNext_rev_item st p.isList (x := u) (by simpa using hu) fun h' st' sb => ?_
    have I1 : Inv X pins σ H { s with heap := h' } := I.turned (t' := s.toks) (fun b o hb e => (sb.2 b hb).trans e) f0 f1 f3 f4 f5
    obtain ⟨o, e, c, d⟩ := id st'
    have e2 : ((n - 1 - i : Nat) : Int) - 1 = (n : Int) - 1 - ((i + 1 : Nat) : Int) := by omega
    rw [e2] at st'
    exact ⟨u, rfl, go_of (s := { s with heap := h' }) e c d (by decide) ⟨_, H, I1, ru, ⟨rfl, fun ys hy => by rw [I.list_inj hy hq]; exact hx⟩, st', fun b hb => (hf b hb).1⟩⟩
  done := by
    intro X hP hw hK hc i pins s σ H E I hf st hg
    subst hP hw hK
    have hg : i = n := hg
    subst hg
    obtain ⟨f0, f1, f2, f3, f4, f5⟩ := hf it (by simp)
    have e1 : (i : Int) - 1 - (i : Int) = -1 := by omega
    rw [e1] at st
    exact wpAny_pyNext_rev_end (I.ok.hd hc) st fun h' eb => ⟨rfl, I.turned (t' := s.toks) (fun b o hb e => eb b o hb e) f0 f1 f3 f4 f5⟩
  self := fun _ _ _ _ _ st h => wpAny_pyIter_revIter st h
def iRev (K : PySem.W.Frag) (ta : TA) : TI := fun σ H R => ta σ H fun vs H1 => ∃ a xs, vs = [.ref a] ∧ SqL K H1 a xs ∧ R (Itv K a xs.length) H1
theorem pi_rev {tg l : Expr} {ta : TA} {p pos : Pos} (hg : Gl X "reversed") (hm : X.mg "reversed" = none) (ha : PA X [l] ta) (hs : starEach [l] X.env = [(false, eval l X.env)] := by rfl) :
    PI X tg (.Call (.Name "reversed" p) [l] [] pos) (iRev X.K ta) := by
  intro pins s σ H R I h
  refine wpAny_Call_Name_kw (ld_blt I hg hm boot_reversed ?_ (by decide) (by decide))
  refine PyProof.Rows.callWith_type1 (thn (ha pos pins s σ H _ I h) fun us s1 h1 => ?_) hs rfl
  obtain ⟨vs, H1, I1, r1, a, xs, rfl, hq, q⟩ := h1
  obtain ⟨u, rfl, rx⟩ := vals1 r1
  cases rx
  obtain ⟨its, rv, pl, hz⟩ := I1.list hq
  have hlen := rv.length
  refine call_reversed_list pl.isList ?_
  have I2 : Inv X pins σ H1 { s1 with heap := s1.heap.push (revObj a ((its.toArray.size : Int) - 1)) } := I1.kept (t' := s1.toks) fun b o z => Heap.get?_push_of_some _ z
  have st : (s1.heap.push (revObj a ((its.toArray.size : Int) - 1))).IsRevIter s1.heap.objs.size a ((its.toArray.size : Int) - 1) := ⟨_, Heap.get?_push_size _ rfl, rfl, rfl⟩
  refine wpAny_pyIter_revIter (s := { s1 with heap := s1.heap.push (revObj a ((its.toArray.size : Int) - 1)) }) st ?_
  have e : ((its.toArray.size : Int) - 1) = (xs.length : Int) - 1 - ((0 : Nat) : Int) := by rw [List.size_toArray]; omega
  rw [e] at st I2 ⊢
  refine ⟨s1.heap.objs.size, [s1.heap.objs.size], _, _, H1, rfl, I2, turn_rev a _ xs.length, st, fun b hb => ?_, q⟩
  have z : b = s1.heap.objs.size := by simpa using hb
  rw [z]
  exact I1.fpOk (Nat.le_refl _) (I1.hok.fresh (Nat.le_refl _))
end
section
variable {K : PySem.W.Frag} {a : Addr} {xs : List V} {g : TG} {tt : TT} {te : TE} {Q : VK} {D : Addr} {σ : St} {H : Hp}
theorem comp_rev {n : Nat} (hn : n = xs.length) (Pv : Nat → List V → St → Hp → Prop) (h0 : Pv 0 [] σ (upd H D (.lst []))) (hl : ∀ i ys σ H, i ≤ xs.length → Pv i ys σ H → SqL K H a xs)
    (hs : ∀ i x ys σ H, xs.reverse[i]? = some x → Pv i ys σ H → g x σ H fun σ3 H3 => tt σ3 H3 fun b H4 => if b = true then te σ3 H4 fun v H5 => H5 D = some (.lst ys) ∧ ys.length < sizeLine ∧ Pv (i + 1) (ys ++ [v]) σ3 (upd H5 D (.lst (ys ++ [v]))) else Pv (i + 1) ys σ3 H4)
    (hd : ∀ ys σ H, Pv xs.length ys σ H → Q (.ref D) H) : CompW (Itv K a n) g tt te Q D σ H := by
  subst hn
  refine ⟨fun i m ys σ H => m = xs.length - i ∧ i ≤ xs.length ∧ Pv i ys σ H, ⟨xs.length, by simp, Nat.zero_le _, h0⟩, ?_⟩
  rintro i m ys σ H ⟨rfl, hi, p⟩
  have q := hl i ys σ H hi p
  by_cases hlt : i < xs.length
  · refine .inr ⟨⟨hlt, xs, q, rfl⟩, Pv (i + 1), fun ys' σ' H' p' => ⟨xs.length - (i + 1), by omega, rfl, hlt, p'⟩, fun x H' y => ?_⟩
    obtain ⟨e, y⟩ := y
    subst e
    exact hs i x ys σ _ (by rw [List.getElem?_reverse hlt]; exact y xs q) p
  · have e : i = xs.length := by omega
    subst e
    exact .inl ⟨rfl, hd ys σ H p⟩
end
end L3

set_option Elab.async false
set_option linter.all false
set_option maxRecDepth 100000
set_option maxHeartbeats 4000000
namespace L3
open PySem PySem.Spec PyProof.Rows L2 PySem.Builtin PySem.Builtin.Str

section
variable {X : Cx}
end

end L3

set_option Elab.async false
set_option linter.all false
set_option maxRecDepth 100000
set_option maxHeartbeats 4000000
namespace L3
open PySem PySem.Spec PyProof.Rows L2
section
variable {X : Cx}
end
end L3

set_option Elab.async false
set_option linter.all false
set_option maxRecDepth 100000
set_option maxHeartbeats 4000000
namespace L3
open PySem PySem.Spec PyProof.Rows L2
section
variable {X : Cx}
end
end L3

set_option Elab.async false
set_option linter.all false
set_option maxRecDepth 100000
set_option maxHeartbeats 4000000
namespace L3
open PySem PySem.Spec PyProof.Rows L2
def Itz (K : PySem.W.Frag) (a b : Addr) : It :=
  ⟨fun i H => ∃ xs ys x y, SqL K H a xs ∧ SqL K H b ys ∧ xs[i]? = some x ∧ ys[i]? = some y,
   fun i H v H' => ∃ p x y, v = .ref p ∧ H p = none ∧ H' = upd H p (.tup [x, y]) ∧ (∀ xs, SqL K H a xs → xs[i]? = some x) ∧ ∀ ys, SqL K H b ys → ys[i]? = some y,
   fun i H => ∃ xs ys, SqL K H a xs ∧ SqL K H b ys ∧ (xs.length ≤ i ∨ ys.length ≤ i)⟩
theorem turn_zip {P : Program} {w : World} {K : PySem.W.Frag} {elts : List Expr} {kk : Nat} {pos : Pos} {z TI TO i1 i2 a b : Addr} (D : ZipApart z TI TO i1 i2 a b) :
    Turn P w K (.Tuple elts kk pos) (Itz K a b) [z, TI, TO, i1, i2] z (fun i h => IsZip h z TI TO .none ∧ IsPair h TI (.ref i1) (.ref i2) ∧ (∃ x y, IsPair h TO x y) ∧ h.IsListIter i1 a i ∧ h.IsListIter i2 b i) where
  mem := by simp
  obj := fun i h st c hc => by
    obtain ⟨h1, h2, ⟨x, y, h3⟩, h4, h5⟩ := st
    have iter : ∀ {it l : Addr}, h.IsListIter it l i → ∃ o, h.get? it = some o ∧ ∀ v, o.data ≠ .cell v := fun ⟨o, e, _, d⟩ => ⟨o, e, fun v q => by rw [d] at q; cases q⟩
    simp only [List.mem_cons, List.not_mem_nil, or_false] at hc
    rcases hc with rfl | rfl | rfl | rfl | rfl
    · exact ⟨_, h1, fun v q => by
        have q' : Data.fields _ = Data.cell v := q
        cases q'⟩
    · exact ⟨_, h2, fun v q => by
        have q' : Data.seq _ _ = Data.cell v := q
        cases q'⟩
    · exact ⟨_, h3, fun v q => by
        have q' : Data.seq _ _ = Data.cell v := q
        cases q'⟩
    · exact iter h4
    · exact iter h5
  keep := fun i h h' st k => by
    obtain ⟨h1, h2, ⟨x, y, h3⟩, h4, h5⟩ := st
    exact ⟨k z (by simp) _ h1, k TI (by simp) _ h2, ⟨x, y, k TO (by simp) _ h3⟩, h4.at fun o q => k i1 (by simp) o q, h5.at fun o q => k i2 (by simp) o q⟩
  item := by
    intro X hP hw hK hc i pins s σ H E I hf st hg
    subst hP hw hK
    obtain ⟨xs, ys, x, y, hqa, hqb, hx, hy⟩ := hg
    obtain ⟨its, rv, p, hz⟩ := I.list hqa
    obtain ⟨jts, rv2, p2, hz2⟩ := I.list hqb
    obtain ⟨u, hu, ru⟩ := rv.get hx
    obtain ⟨v, hv, rv'⟩ := rv2.get hy
    obtain ⟨h1, h2, ⟨x0, y0, h3⟩, h4, h5⟩ := st
    refine wpAny_pyNext_zip_item D h1 h2 h3 h4 h5 p.isList p2.isList (x := u) (y := v) (by simpa using hu) (by simpa using hv) fun h1' hzo hTO' hi1 hi2 hT hsz hk1 => ?_
    refine ⟨_, rfl, wpAny_letOwnedTupleGo_zip hzo fun h2' hz2' hs2 => ?_⟩
    have lt : ∀ c o, s.heap.get? c = some o → c ≠ s.heap.objs.size := fun c o q => Nat.ne_of_lt (Heap.lt_size q)
    have old2 : ∀ c o, c ≠ z → c ≠ TO → c ≠ i1 → c ≠ i2 → s.heap.get? c = some o → h2'.get? c = some o := fun c o n1 n2 n3 n4 q => (hs2.2 c n1).trans (hk1 c o n1 n2 n3 n4 q)
    have hTz : s.heap.objs.size ≠ z := (lt z _ h1).symm
    have ht2 : h2'.get? s.heap.objs.size = some { cls := .type "tuple", data := .seq #[u, v] } := (hs2.2 _ hTz).trans hT
    have hn : H s.heap.objs.size = none := I.hok.fresh (Nat.le_refl _)
    have fz := hf z (by simp)
    have fTI := hf TI (by simp)
    have fTO := hf TO (by simp)
    have f1 := hf i1 (by simp)
    have f2 := hf i2 (by simp)
    have nch : ∀ c, c ∉ [z, TO, i1, i2] → c ≠ z ∧ c ≠ TO ∧ c ≠ i1 ∧ c ≠ i2 := fun c hc => by
      simp only [List.mem_cons, List.not_mem_nil, or_false, not_or] at hc
      exact hc
    have trk : ∀ c o, H c = some o → c ≠ z ∧ c ≠ TO ∧ c ≠ i1 ∧ c ≠ i2 := fun c o q => ⟨ne_of_none q fz.1, ne_of_none q fTO.1, ne_of_none q f1.1, ne_of_none q f2.1⟩
    have new : ObjOk X.prog X.w (upd H s.heap.objs.size (.tup [x, y])) h2' s.heap.objs.size (.tup [x, y]) :=
      ⟨by show 2 ≤ sizeLine; rw [sizeLine_eq]; decide, [u, v], .cons ru (.cons rv' .nil), ⟨_, ht2, rfl, _, rfl⟩⟩
    have hok2 : HOk X.prog X.w (upd H s.heap.objs.size (.tup [x, y])) h2' := fun c o q => by
      by_cases hb : c = s.heap.objs.size
      · subst hb; rw [upd_same] at q; cases q; exact new
      · rw [upd_ne hb] at q
        refine (I.hok c o q).stay (fun e v' hc' r => ?_) (fun e r => by rw [upd_ne (ne_of_none r hn)]; exact r) fun e ys r => by rw [upd_ne (ne_of_none r hn)]; exact r
        have hcc : e ≠ z ∧ e ≠ TO ∧ e ≠ i1 ∧ e ≠ i2 := by
          rcases hc' with y' | y'
          · subst y'; exact trk e o q
          · exact trk e _ y'
        exact old2 e v' hcc.1 hcc.2.1 hcc.2.2.1 hcc.2.2.2 r
    have I2 : Inv X pins σ (upd H s.heap.objs.size (.tup [x, y])) { s with heap := h2' } :=
      I.step (g' := s.gens) (t' := s.toks) (d' := s.drawn) (ch := [z, TO, i1, i2])
        (fun c hc => by
          simp only [List.mem_cons, List.not_mem_nil, or_false] at hc
          rcases hc with rfl | rfl | rfl | rfl
          · exact ⟨fz.2.2.2.1, fz.2.1, fz.2.2.2.2.1, fz.2.2.2.2.2⟩
          · exact ⟨fTO.2.2.2.1, fTO.2.1, fTO.2.2.2.2.1, fTO.2.2.2.2.2⟩
          · exact ⟨f1.2.2.2.1, f1.2.1, f1.2.2.2.2.1, f1.2.2.2.2.2⟩
          · exact ⟨f2.2.2.2.1, f2.2.1, f2.2.2.2.2.1, f2.2.2.2.2.2⟩)
        (fun c o _ _ hb q _ => old2 c o (nch c hb).1 (nch c hb).2.1 (nch c hb).2.2.1 (nch c hb).2.2.2 q)
        (fun c o _ _ hb q _ => ⟨o.slots, old2 c o (nch c hb).1 (nch c hb).2.1 (nch c hb).2.2.1 (nch c hb).2.2.2 q⟩)
        (fun c o _ q n => by rw [upd_ne (lt c o q)]; exact n)
        (fun c o hb q => ⟨o, old2 c o (nch c hb).1 (nch c hb).2.1 (nch c hb).2.2.1 (nch c hb).2.2.2 q⟩)
        (fun c ys q => by rw [upd_ne (ne_of_none q hn)]; exact q)
        (fun c o u q => by rw [upd_ne (ne_of_none q hn)]; exact q)
        (fun c ps q => ⟨#[], by rw [upd_ne (ne_of_none q hn), q]; simp⟩)
        (fun m hm => by
          obtain ⟨o, es, ep, ho, r⟩ := hm
          exact ⟨o, es, ep, old2 _ o (Ne.symm fz.2.1) (Ne.symm fTO.2.1) (Ne.symm f1.2.1) (Ne.symm f2.2.1) ho, r⟩) hok2 I.bare
    refine ⟨.ref s.heap.objs.size, _, I2, rfl, ⟨_, x, y, rfl, hn, rfl, fun zs hy' => by rw [I.list_inj hy' hqa]; exact hx, fun zs hy' => by rw [I.list_inj hy' hqb]; exact hy⟩, ⟨hz2', ?_, ⟨u, v, ?_⟩, ?_, ?_⟩, fun c hc => ?_⟩
    · exact old2 TI _ D.TIz D.TITO D.TIi1 D.TIi2 h2
    · exact (hs2.2 TO D.TOz).trans hTO'
    · exact hi1.at fun o q => (hs2.2 i1 D.i1z).trans q
    · exact hi2.at fun o q => (hs2.2 i2 D.i2z).trans q
    · have hcz : c ≠ s.heap.objs.size := by
        have it1 : ∃ o, s.heap.get? i1 = some o := let ⟨o, q, _⟩ := h4; ⟨o, q⟩
        have it2 : ∃ o, s.heap.get? i2 = some o := let ⟨o, q, _⟩ := h5; ⟨o, q⟩
        obtain ⟨o1, q1⟩ := it1
        obtain ⟨o2, q2⟩ := it2
        simp only [List.mem_cons, List.not_mem_nil, or_false] at hc
        rcases hc with rfl | rfl | rfl | rfl | rfl
        · exact lt _ _ h1
        · exact lt _ _ h2
        · exact lt _ _ h3
        · exact lt _ _ q1
        · exact lt _ _ q2
      rw [upd_ne hcz]
      exact (hf c hc).1
  done := by
    intro X hP hw hK hc i pins s σ H E I hf st hg
    subst hP hw hK
    obtain ⟨xs, ys, hqa, hqb, hx⟩ := hg
    obtain ⟨its, rv, p, hz⟩ := I.list hqa
    obtain ⟨jts, rv2, p2, hz2⟩ := I.list hqb
    obtain ⟨h1, h2, ⟨x0, y0, h3⟩, h4, h5⟩ := st
    have l1 := rv.length
    have l2 := rv2.length
    have fz := hf z (by simp)
    have fTO := hf TO (by simp)
    have f1 := hf i1 (by simp)
    have f2 := hf i2 (by simp)
    refine wpAny_pyNext_zip_end (I.ok.hd hc) D h1 h2 h3 h4 h5 p.isList p2.isList ?_ fun h' eb => ⟨rfl, ?_⟩
    · rcases hx with hx | hx
      · left; simp; omega
      · right; simp; omega
    · have nch : ∀ c, c ∉ [z, TO, i1, i2] → c ≠ z ∧ c ≠ TO ∧ c ≠ i1 ∧ c ≠ i2 := fun c hc => by
        simp only [List.mem_cons, List.not_mem_nil, or_false, not_or] at hc
        exact hc
      have trk : ∀ c o, H c = some o → c ≠ z ∧ c ≠ TO ∧ c ≠ i1 ∧ c ≠ i2 := fun c o q => ⟨ne_of_none q fz.1, ne_of_none q fTO.1, ne_of_none q f1.1, ne_of_none q f2.1⟩
      have old : ∀ c o, c ∉ [z, TO, i1, i2] → s.heap.get? c = some o → h'.get? c = some o := fun c o hb q => eb c o (nch c hb).1 (nch c hb).2.1 (nch c hb).2.2.1 (nch c hb).2.2.2 q
      exact I.step (g' := s.gens) (t' := s.toks) (d' := s.drawn) (ch := [z, TO, i1, i2])
        (fun c hc => by
          simp only [List.mem_cons, List.not_mem_nil, or_false] at hc
          rcases hc with rfl | rfl | rfl | rfl
          · exact ⟨fz.2.2.2.1, fz.2.1, fz.2.2.2.2.1, fz.2.2.2.2.2⟩
          · exact ⟨fTO.2.2.2.1, fTO.2.1, fTO.2.2.2.2.1, fTO.2.2.2.2.2⟩
          · exact ⟨f1.2.2.2.1, f1.2.1, f1.2.2.2.2.1, f1.2.2.2.2.2⟩
          · exact ⟨f2.2.2.2.1, f2.2.1, f2.2.2.2.2.1, f2.2.2.2.2.2⟩)
        (fun c o _ _ hb q _ => old c o hb q) (fun c o _ _ hb q _ => ⟨o.slots, old c o hb q⟩) (fun _ _ _ _ n => n) (fun c o hb q => ⟨o, old c o hb q⟩) (fun _ _ q => q) (fun _ _ _ q => q) (fun c ps q => ⟨#[], by rw [q]; simp⟩)
        (fun m hm => by
          obtain ⟨o, es, ep, ho, r⟩ := hm
          exact ⟨o, es, ep, eb _ o (Ne.symm fz.2.1) (Ne.symm fTO.2.1) (Ne.symm f1.2.1) (Ne.symm f2.2.1) ho, r⟩)
        (fun c o q => (I.hok c o q).stay (fun e v hc' r => by
          have hcc : e ≠ z ∧ e ≠ TO ∧ e ≠ i1 ∧ e ≠ i2 := by
            rcases hc' with y' | y'
            · subst y'; exact trk e o q
            · exact trk e _ y'
          exact eb e v hcc.1 hcc.2.1 hcc.2.2.1 hcc.2.2.2 r) (fun _ r => r) fun _ _ r => r) I.bare
  self := fun _ _ _ _ _ st h => wpAny_pyIter_zip st.1 h
section
variable {X : Cx}
def iZip (K : PySem.W.Frag) (ta : TA) : TI := fun σ H R => ta σ H fun vs H1 => ∃ a b xs ys, vs = [.ref a, .ref b] ∧ SqL K H1 a xs ∧ SqL K H1 b ys ∧ R (Itz K a b) H1
theorem boot_zip : bootBuiltins "zip" = some (.type "zip") := by decide +kernel
theorem pi_zip {l m : Expr} {ta : TA} {elts : List Expr} {kk : Nat} {tpos p pos : Pos} (hg : Gl X "zip") (hm : X.mg "zip" = none) (ha : PA X [l, m] ta) (hs : starEach [l, m] X.env = (false, eval l X.env) :: starEach [m] X.env := by rfl) (hpl : (backTo pos (starEach [m] X.env)).any (·.1) = false := by rfl) :
    PI X (.Tuple elts kk tpos) (.Call (.Name "zip" p) [l, m] [] pos) (iZip X.K ta) := by
  intro pins s σ H R I h
  refine Call_ (ld_blt I hg hm boot_zip (PyProof.Rows.callWith_type1 (thn (ha pos pins s σ H _ I h) fun us s1 ⟨vs, H1, I1, r1, q1⟩ => ?_) hs hpl))
  obtain ⟨a, b, xs, ys, rfl, hqa, hqb, q⟩ := q1
  obtain ⟨u, v, rfl, rx, ry⟩ := vals2 r1
  cases rx
  cases ry
  obtain ⟨its, rv, p1, hz⟩ := I1.list hqa
  obtain ⟨jts, rv2, p2, hz2⟩ := I1.list hqb
  have la : a < s1.heap.objs.size := by obtain ⟨o, ho, _⟩ := p1.isList; exact Heap.lt_size ho
  have lb : b < s1.heap.objs.size := by obtain ⟨o, ho, _⟩ := p2.isList; exact Heap.lt_size ho
  refine call_zip_2 p1.isList p2.isList fun h' g1 g2 g3 g4 g5 hsz hk => ?_
  refine wpAny_pyIter_zip g1 ?_
  have I2 : Inv X pins σ H1 { s1 with heap := h' } := I1.kept (t' := s1.toks) hk
  obtain ⟨n, hn⟩ : ∃ n : Nat, n = s1.heap.objs.size := ⟨_, rfl⟩
  rw [← hn] at la lb g1 g2 g3 g4 g5 ⊢
  have D : ZipApart (n + 4) (n + 2) (n + 3) n (n + 1) a b := by
    constructor <;> first
      | exact Nat.ne_of_lt (Nat.lt_of_lt_of_le la (Nat.le_add_right _ _))
      | exact Nat.ne_of_lt (Nat.lt_of_lt_of_le lb (Nat.le_add_right _ _))
      | exact Nat.ne_of_lt la
      | exact Nat.ne_of_lt lb
      | (intro z; have z' : (_ : Nat) = _ := z; omega)
  refine ⟨n + 4, [n + 4, n + 2, n + 3, n, n + 1], _, _, H1, rfl, I2, turn_zip D, ⟨g1, g2, ⟨_, _, g3⟩, g4, g5⟩, fun c hc => ?_, q⟩
  have e : s1.heap.objs.size ≤ c := by
    rw [← hn]
    simp only [List.mem_cons, List.not_mem_nil, or_false] at hc
    rcases hc with rfl | rfl | rfl | rfl | rfl
    · exact Nat.le_add_right _ _
    · exact Nat.le_add_right _ _
    · exact Nat.le_add_right _ _
    · exact Nat.le_refl _
    · exact Nat.le_add_right _ _
  exact I1.fpOk e (I1.hok.fresh e)
theorem call_max_list (hc : X.calm = true) : CallR X (.builtin "max") (fun xs H Q => ∃ (p : Addr) (ns : List Int), xs = [.ref p] ∧ SqL X.K H p (ns.map V.int) ∧ 0 < ns.length ∧ ∀ M : Int, M ∈ ns → (∀ a ∈ ns, a ≤ M) → Q (.int M) H) := by
  intro pins s σ H xs us Q I r h
  obtain ⟨p, ns, rfl, hq, hne, q⟩ := h
  obtain ⟨u, rfl, rx⟩ := vals1 r
  cases rx
  obtain ⟨its, r', pl, hz⟩ := I.list hq
  have hI := intsAre_of r'
  obtain ⟨xs, e⟩ := hI.allInts.items
  have hns : ns = xs.toList.map (·.1) := by rw [← hI.numsOf, ← nums_intItems, ← e]
  have hsz : 0 < xs.size := by rw [hns, List.length_map, Array.length_toList] at hne; exact hne
  have hl := pl.isList
  rw [e] at hl
  refine max_intList (I.ok.hd hc) hl hsz fun v h' tk hv hk => ?_
  obtain ⟨t, rfl⟩ := intItems_at hv
  obtain ⟨g1, g2⟩ := argBest_gt (numAt xs) (xs.size - 1)
  refine ⟨.int _, H, I.kept (t' := tk) hk, ⟨t, rfl⟩, q _ ?_ fun a ha => ?_⟩
  · rw [hns, numAt_eq]
    exact getD_mem (by rw [List.length_map, Array.length_toList]; omega)
  · rw [hns] at ha
    obtain ⟨j, hj, rfl⟩ := mem_getD ha
    rw [List.length_map, Array.length_toList] at hj
    rw [← numAt_eq]
    exact g2 j (by omega)
end
section
variable {K : PySem.W.Frag} {a b : Addr} {xs ys : List V} {g : TG} {tt : TT} {te : TE} {Q : VK} {D : Addr} {σ : St} {H : Hp}
theorem comp_zip (hxy : ys.length = xs.length) (Pv : Nat → List V → St → Hp → Prop) (h0 : Pv 0 [] σ (upd H D (.lst []))) (hl : ∀ i zs σ H, i ≤ xs.length → Pv i zs σ H → SqL K H a xs ∧ SqL K H b ys)
    (hs : ∀ i x y zs σ H p, xs[i]? = some x → ys[i]? = some y → Pv i zs σ H → H p = none → g (.ref p) σ (upd H p (.tup [x, y])) fun σ3 H3 => tt σ3 H3 fun c H4 => if c = true then te σ3 H4 fun v H5 => H5 D = some (.lst zs) ∧ zs.length < sizeLine ∧ Pv (i + 1) (zs ++ [v]) σ3 (upd H5 D (.lst (zs ++ [v]))) else Pv (i + 1) zs σ3 H4)
    (hd : ∀ zs σ H, Pv xs.length zs σ H → Q (.ref D) H) : CompW (Itz K a b) g tt te Q D σ H := by
  refine ⟨fun i m zs σ H => m = xs.length - i ∧ i ≤ xs.length ∧ Pv i zs σ H, ⟨xs.length, by simp, Nat.zero_le _, h0⟩, ?_⟩
  rintro i m zs σ H ⟨rfl, hi, p⟩
  obtain ⟨q1, q2⟩ := hl i zs σ H hi p
  by_cases hlt : i < xs.length
  · refine .inr ⟨⟨xs, ys, xs[i], ys[i]'(by omega), q1, q2, by simp [hlt], by simp [hxy, hlt]⟩, Pv (i + 1), fun zs' σ' H' p' => ⟨xs.length - (i + 1), by omega, rfl, hlt, p'⟩, fun x H' y => ?_⟩
    obtain ⟨pp, v, v2, rfl, hn, rfl, y1, y2⟩ := y
    exact hs i v v2 zs σ _ pp (y1 xs q1) (y2 ys q2) p hn
  · have e : i = xs.length := by omega
    subst e
    exact .inl ⟨⟨xs, ys, q1, q2, .inl (Nat.le_refl _)⟩, hd zs σ H p⟩
end
end L3

set_option Elab.async false
set_option linter.all false
set_option maxRecDepth 100000
set_option maxHeartbeats 4000000
namespace L3
open PySem PySem.Spec PyProof.Rows L2
section
variable {P : Program} {w : World} {A : Around} {R : Result → Shared → Prop}
end
section
variable {X : Cx}
end

section
variable {X : Cx} {k : Nat} {f : Addr} {fd : FuncData} {ps : List Str} {sp : Sp} {dvs : List V} {ds : List Value} {x : Str} {p pos : Pos} {e : Expr} {es : List Expr} {t : TA}
end
end L3

set_option Elab.async false
set_option linter.all false
set_option maxRecDepth 100000
set_option maxHeartbeats 4000000
namespace Srt
open PySem PyProof.Rows
abbrev kv (p : Keyed) : Int := numOf p.1
def IntK (p : Keyed) : Prop := ∃ n t, p.1 = Value.int n t
def gal : Bool → Keyed → Array Keyed → Nat → Nat → Nat → StateT SortSt Sem (Option Nat) := sortPriv% PySem.Builtin.gallop
def byd (left : Bool) (key : Keyed) (arr : Array Keyed) (base i : Nat) : StateT SortSt Sem (Option Bool) := do
  let x ← elem' arr (base + i)
  if left then lt' x key else return (← lt' key x).map (!·)
theorem gal_eq (left : Bool) (key : Keyed) (arr : Array Keyed) (base n hint : Nat) : gal left key arr base n hint = (do
  let mut lastofs := 0
  let mut ofs := 1
  let mut lo := 0
  let mut hi := 0
  let some right ← byd left key arr base hint | return none
  if right then
    let maxofs := n - hint
    for _ in [0:n] do
      if ofs ≥ maxofs then break
      let some more ← byd left key arr base (hint + ofs) | return none
      if !more then break
      lastofs := ofs
      ofs := 2 * ofs + 1
    lo := hint + lastofs + 1
    hi := hint + min ofs maxofs
  else
    let maxofs := hint + 1
    for _ in [0:n] do
      if ofs ≥ maxofs then break
      let some found ← byd left key arr base (hint - ofs) | return none
      if found then break
      lastofs := ofs
      ofs := 2 * ofs + 1
    lo := hint + 1 - min ofs maxofs
    hi := hint - lastofs
  for _ in [0:n] do
    if lo ≥ hi then break
    let m := lo + (hi - lo) / 2
    let some more ← byd left key arr base m | return none
    if more then lo := m + 1 else hi := m
  return some hi) := rfl
section
variable {prog : Program} {w : World} {A : Around} {E : Value → Shared → Prop} {s : Shared}
theorem wp_elem {st : SortSt} {arr : Array Keyed} {i : Nat} {p : Keyed} {Q : Keyed → SortSt → Prop} (h : arr[i]? = some p) (q : Q p st) : wpS (model prog w) A E s (elem' arr i) Q st := by
  rw [elem'_eq, h]
  exact wpS_pure q
theorem wp_lt {st : SortSt} {x y : Keyed} {Q : Option Bool → SortSt → Prop} (hk : kindOf st = oneType') (hx : IntK x) (hy : IntK y) (q : Q (some (decide (kv x < kv y))) st) : wpS (model prog w) A E s (lt' x y) Q st := by
  obtain ⟨a, t, ha⟩ := hx
  obtain ⟨b, u, hb⟩ := hy
  rw [lt'_eq]
  refine wpS_bind (wpS_get ?_)
  rw [hk, keyLt'_oneType, ha, hb]
  refine wpS_bind (wpS_lift (wpAny_attempt (oneLt_int ⟨rfl, wpS_pure ?_⟩)))
  have e1 : kv x = a := by show numOf x.1 = a; rw [ha]; rfl
  have e2 : kv y = b := by show numOf y.1 = b; rw [hb]; rfl
  rw [e1, e2] at q
  exact q
structure Gal (left : Bool) (key : Keyed) (arr : Array Keyed) (base n : Nat) (b : Nat → Bool) : Prop where
  ik : IntK key
  at' : ∀ i, i < n → ∃ p, arr[base + i]? = some p ∧ IntK p ∧ b i = (if left then decide (kv p < kv key) else !decide (kv key < kv p))
  mono : ∀ i j, i ≤ j → j < n → b j = true → b i = true
theorem wp_byd {left : Bool} {key : Keyed} {arr : Array Keyed} {base n i : Nat} {b : Nat → Bool} {st : SortSt} {Q : Option Bool → SortSt → Prop} (G : Gal left key arr base n b) (hk : kindOf st = oneType') (hi : i < n) (q : Q (some (b i)) st) :
    wpS (model prog w) A E s (byd left key arr base i) Q st := by
  obtain ⟨p, hp, ip, e⟩ := G.at' i hi
  unfold byd
  refine wpS_bind (wp_elem hp ?_)
  cases left with
  | true =>
    rw [if_pos rfl] at e ⊢
    exact wp_lt hk ip G.ik (by rw [← e]; exact q)
  | false =>
    rw [if_neg (by decide)] at e ⊢
    refine wpS_bind (wp_lt hk G.ik ip (wpS_pure ?_))
    rw [e] at q
    exact q
theorem wp_gal {left : Bool} {key : Keyed} {arr : Array Keyed} {base n hint : Nat} {b : Nat → Bool} {st : SortSt} {Q : Option Nat → SortSt → Prop} (G : Gal left key arr base n b) (hk : kindOf st = oneType') (hh : hint < n)
    (q : ∀ k, k ≤ n → (∀ i, i < k → b i = true) → (∀ i, k ≤ i → i < n → b i = false) → Q (some k) st) : wpS (model prog w) A E s (gal left key arr base n hint) Q st := by
  rw [gal_eq]
  refine wpS_bind (wp_byd G hk hh ?_)
  dsimp only
  cases hr : b hint with
  | true =>
    rw [if_pos rfl]
    refine wpS_bind (wpS_mono (wpS_forRange (I := fun x c st' => st' = st ∧ ∃ l o, c = (none, l, o) ∧ l < o ∧ x < o ∧ hint + l < n ∧ b (hint + l) = true)
      (Q := fun c st' => st' = st ∧ ∃ l o, c = (none, l, o) ∧ l < o ∧ hint + l < n ∧ b (hint + l) = true ∧ (n - hint ≤ o ∨ (hint + o < n ∧ b (hint + o) = false))) ?_ ?_ ⟨rfl, 0, 1, rfl, by omega, by omega, hh, hr⟩) ?_)
    · rintro x c st' _ hx ⟨rfl, l, o, rfl, a1, a2, a3, a4⟩
      dsimp only
      by_cases hge : o ≥ n - hint
      · rw [if_pos hge]
        exact wpS_pure ⟨rfl, l, o, rfl, a1, a3, a4, .inl hge⟩
      · rw [if_neg hge]
        refine wpS_bind (wp_byd G hk (i := hint + o) (by omega) ?_)
        dsimp only
        cases hb : b (hint + o) with
        | true =>
          rw [if_neg (by decide)]
          exact wpS_pure ⟨rfl, o, 2 * o + 1, rfl, by omega, by omega, by omega, hb⟩
        | false =>
          rw [if_pos (by decide)]
          exact wpS_pure ⟨rfl, l, o, rfl, a1, a3, a4, .inr ⟨by omega, hb⟩⟩
    · rintro c st' ⟨rfl, l, o, rfl, a1, a2, a3, a4⟩
      exact ⟨rfl, l, o, rfl, a1, a3, a4, .inl (by omega)⟩
    · rintro c st'' ⟨hst, l, o, rfl, a1, a3, a4, a5⟩
      subst st''
      dsimp only
      have h1 : hint + l + 1 ≤ hint + min o (n - hint) := by omega
      have h2 : hint + min o (n - hint) ≤ n := by omega
      have h3 : ∀ i, i < hint + l + 1 → b i = true := fun i hi => G.mono i _ (by omega) a3 a4
      have h4 : ∀ i, hint + min o (n - hint) ≤ i → i < n → b i = false := fun i hi hin => by
        rcases a5 with z | ⟨z1, z2⟩
        · omega
        · cases hi' : b i
          · rfl
          · rw [G.mono (hint + o) i (by omega) hin hi'] at z2; cases z2
      clear a1 a3 a4 a5
      generalize hint + l + 1 = lo at *
      generalize hint + min o (n - hint) = hi at *
      refine wpS_bind (wpS_mono (wpS_forRange (I := fun x c st' => st' = st ∧ ∃ l h, c = (none, l, h) ∧ l ≤ h ∧ h ≤ n ∧ h - l ≤ n - x ∧ (∀ i, i < l → b i = true) ∧ (∀ i, h ≤ i → i < n → b i = false))
        (Q := fun c st' => st' = st ∧ ∃ l, c = (none, l, l) ∧ l ≤ n ∧ (∀ i, i < l → b i = true) ∧ (∀ i, l ≤ i → i < n → b i = false)) ?_ ?_ ⟨rfl, lo, hi, rfl, h1, h2, by omega, h3, h4⟩) ?_)
      · rintro x c st' _ hx ⟨rfl, l, h, rfl, a1, a2, a3, a4, a5⟩
        dsimp only
        by_cases hge : l ≥ h
        · rw [if_pos hge]
          obtain rfl : l = h := by omega
          exact wpS_pure ⟨rfl, l, rfl, a2, a4, a5⟩
        · rw [if_neg hge]
          refine wpS_bind (wp_byd G hk (i := l + (h - l) / 2) (by omega) ?_)
          dsimp only
          cases hb : b (l + (h - l) / 2) with
          | true =>
            rw [if_pos rfl]
            exact wpS_pure ⟨rfl, _, _, rfl, by omega, a2, by omega, fun i hi => G.mono i _ (by omega) (by omega) hb, a5⟩
          | false =>
            rw [if_neg (by decide)]
            refine wpS_pure ⟨rfl, _, _, rfl, by omega, by omega, by omega, a4, fun i hi hin => ?_⟩
            cases hi' : b i
            · rfl
            · rw [G.mono _ i hi hin hi'] at hb; cases hb
      · rintro c st' ⟨rfl, l, h, rfl, a1, a2, a3, a4, a5⟩
        obtain rfl : l = h := by omega
        exact ⟨rfl, l, rfl, a2, a4, a5⟩
      · rintro c st' ⟨rfl, l, rfl, a2, a4, a5⟩
        exact wpS_pure (q l a2 a4 a5)
  | false =>
    rw [if_neg (by decide)]
    refine wpS_bind (wpS_mono (wpS_forRange (I := fun x c st' => st' = st ∧ ∃ l o, c = (none, l, o) ∧ l < o ∧ x < o ∧ l ≤ hint ∧ b (hint - l) = false)
      (Q := fun c st' => st' = st ∧ ∃ l o, c = (none, l, o) ∧ l < o ∧ l ≤ hint ∧ b (hint - l) = false ∧ (hint + 1 ≤ o ∨ (o ≤ hint ∧ b (hint - o) = true))) ?_ ?_ ⟨rfl, 0, 1, rfl, by omega, by omega, by omega, hr⟩) ?_)
    · rintro x c st' _ hx ⟨rfl, l, o, rfl, a1, a2, a3, a4⟩
      dsimp only
      by_cases hge : o ≥ hint + 1
      · rw [if_pos hge]
        exact wpS_pure ⟨rfl, l, o, rfl, a1, a3, a4, .inl hge⟩
      · rw [if_neg hge]
        refine wpS_bind (wp_byd G hk (i := hint - o) (by omega) ?_)
        dsimp only
        cases hb : b (hint - o) with
        | true =>
          rw [if_pos rfl]
          exact wpS_pure ⟨rfl, l, o, rfl, a1, a3, a4, .inr ⟨by omega, hb⟩⟩
        | false =>
          rw [if_neg (by decide)]
          exact wpS_pure ⟨rfl, o, 2 * o + 1, rfl, by omega, by omega, by omega, hb⟩
    · rintro c st' ⟨rfl, l, o, rfl, a1, a2, a3, a4⟩
      exact ⟨rfl, l, o, rfl, a1, a3, a4, .inl (by omega)⟩
    · rintro c st'' ⟨hst, l, o, rfl, a1, a3, a4, a5⟩
      subst st''
      dsimp only
      have h1 : hint + 1 - min o (hint + 1) ≤ hint - l := by omega
      have h2 : hint - l ≤ n := by omega
      have h3 : ∀ i, i < hint + 1 - min o (hint + 1) → b i = true := fun i hi => by
        rcases a5 with z | ⟨z1, z2⟩
        · omega
        · exact G.mono i (hint - o) (by omega) (by omega) z2
      have h4 : ∀ i, hint - l ≤ i → i < n → b i = false := fun i hi hin => by
        cases hi' : b i
        · rfl
        · rw [G.mono (hint - l) i (by omega) hin hi'] at a4; cases a4
      clear a1 a3 a4 a5
      generalize hint + 1 - min o (hint + 1) = lo at *
      generalize hint - l = hi at *
      refine wpS_bind (wpS_mono (wpS_forRange (I := fun x c st' => st' = st ∧ ∃ l h, c = (none, l, h) ∧ l ≤ h ∧ h ≤ n ∧ h - l ≤ n - x ∧ (∀ i, i < l → b i = true) ∧ (∀ i, h ≤ i → i < n → b i = false))
        (Q := fun c st' => st' = st ∧ ∃ l, c = (none, l, l) ∧ l ≤ n ∧ (∀ i, i < l → b i = true) ∧ (∀ i, l ≤ i → i < n → b i = false)) ?_ ?_ ⟨rfl, lo, hi, rfl, h1, h2, by omega, h3, h4⟩) ?_)
      · rintro x c st' _ hx ⟨rfl, l, h, rfl, a1, a2, a3, a4, a5⟩
        dsimp only
        by_cases hge : l ≥ h
        · rw [if_pos hge]
          obtain rfl : l = h := by omega
          exact wpS_pure ⟨rfl, l, rfl, a2, a4, a5⟩
        · rw [if_neg hge]
          refine wpS_bind (wp_byd G hk (i := l + (h - l) / 2) (by omega) ?_)
          dsimp only
          cases hb : b (l + (h - l) / 2) with
          | true =>
            rw [if_pos rfl]
            exact wpS_pure ⟨rfl, _, _, rfl, by omega, a2, by omega, fun i hi => G.mono i _ (by omega) (by omega) hb, a5⟩
          | false =>
            rw [if_neg (by decide)]
            refine wpS_pure ⟨rfl, _, _, rfl, by omega, by omega, by omega, a4, fun i hi hin => ?_⟩
            cases hi' : b i
            · rfl
            · rw [G.mono _ i hi hin hi'] at hb; cases hb
      · rintro c st' ⟨rfl, l, h, rfl, a1, a2, a3, a4, a5⟩
        obtain rfl : l = h := by omega
        exact ⟨rfl, l, rfl, a2, a4, a5⟩
      · rintro c st' ⟨rfl, l, rfl, a2, a4, a5⟩
        exact wpS_pure (q l a2 a4 a5)
end
end Srt

set_option Elab.async false
set_option linter.all false
set_option maxRecDepth 100000
set_option maxHeartbeats 4000000
namespace Srt
open PySem PyProof.Rows
def Up (l : List Keyed) : Prop := l.Pairwise fun x y => kv x ≤ kv y
structure MI (out ra rb all : List Keyed) : Prop where
  perm : (out ++ ra ++ rb).Perm all
  so : Up out
  sa : Up ra
  sb : Up rb
  le : ∀ x ∈ out, ∀ y, y ∈ ra ∨ y ∈ rb → kv x ≤ kv y
theorem MI.moveA {out p ra rb all : List Keyed} (M : MI out (p ++ ra) rb all) (h : ∀ x ∈ p, ∀ y ∈ rb, kv x ≤ kv y) : MI (out ++ p) ra rb all := by
  obtain ⟨s1, s2, s3⟩ := List.pairwise_append.mp M.sa
  refine ⟨by rw [List.append_assoc out p ra]; exact M.perm, List.pairwise_append.mpr ⟨M.so, s1, fun x hx y hy => M.le x hx y (.inl (List.mem_append_left _ hy))⟩, s2, M.sb, fun x hx y hy => ?_⟩
  rcases List.mem_append.mp hx with z | z
  · rcases hy with w | w
    · exact M.le x z y (.inl (List.mem_append_right _ w))
    · exact M.le x z y (.inr w)
  · rcases hy with w | w
    · exact s3 x z y w
    · exact h x z y w
theorem MI.moveB {out p ra rb all : List Keyed} (M : MI out ra (p ++ rb) all) (h : ∀ x ∈ p, ∀ y ∈ ra, kv x ≤ kv y) : MI (out ++ p) ra rb all := by
  obtain ⟨s1, s2, s3⟩ := List.pairwise_append.mp M.sb
  refine ⟨?_, List.pairwise_append.mpr ⟨M.so, s1, fun x hx y hy => M.le x hx y (.inr (List.mem_append_left _ hy))⟩, M.sa, s2, fun x hx y hy => ?_⟩
  · refine List.Perm.trans ?_ M.perm
    rw [List.append_assoc out p, List.append_assoc out, List.append_assoc out, ← List.append_assoc ra p rb]
    exact List.Perm.append_left out (List.Perm.append_right rb List.perm_append_comm)
  rcases List.mem_append.mp hx with z | z
  · rcases hy with w | w
    · exact M.le x z y (.inl w)
    · exact M.le x z y (.inr (List.mem_append_right _ w))
  · rcases hy with w | w
    · exact h x z y w
    · exact s3 x z y w
def Good (all r : List Keyed) : Prop := r.Perm all ∧ Up r
theorem MI.done {out ra rb all : List Keyed} (M : MI out ra rb all) (h : ra = [] ∨ rb = []) : Good all (out ++ ra ++ rb) := by
  refine ⟨M.perm, ?_⟩
  have h1 : Up (out ++ ra) := List.pairwise_append.mpr ⟨M.so, M.sa, fun x hx y hy => M.le x hx y (.inl hy)⟩
  rcases h with z | z
  · rw [z, List.append_nil]
    exact List.pairwise_append.mpr ⟨M.so, M.sb, fun x hx y hy => M.le x hx y (.inr hy)⟩
  · rw [z, List.append_nil]
    exact h1
theorem MI.last {out rb all : List Keyed} {x : Keyed} (M : MI out [x] rb all) (h : ∀ y ∈ rb, kv y ≤ kv x) : Good all (out ++ rb ++ [x]) := by
  have M2 : MI out [x] (rb ++ []) all := by rw [List.append_nil]; exact M
  have M3 := M2.moveB fun y hy z hz => by rw [List.mem_singleton.mp hz]; exact h y hy
  have := M3.done (.inr rfl)
  rw [List.append_nil] at this
  exact this
theorem drop_at {a : Array Keyed} {i : Nat} (h : i < a.size) : a[i]? = some a[i] ∧ a.toList.drop i = a[i] :: a.toList.drop (i + 1) := by
  refine ⟨getElem?_pos a i h, ?_⟩
  rw [← List.getElem_cons_drop (as := a.toList) (i := i) (by rw [Array.length_toList]; exact h)]
  rfl
theorem ext_list (a : Array Keyed) (i j : Nat) : (a.extract i j).toList = (a.toList.drop i).take (j - i) := by
  rw [Array.toList_extract]
theorem ext_end (a : Array Keyed) (i : Nat) : (a.extract i a.size).toList = a.toList.drop i := by
  rw [ext_list, List.take_of_length_le (by rw [List.length_drop, Array.length_toList]; exact Nat.le_refl _)]
theorem drop_end {a : Array Keyed} {i : Nat} (h : i = a.size) : a.toList.drop i = [] := List.drop_eq_nil_of_le (by rw [Array.length_toList]; omega)
theorem drop_last {a : Array Keyed} {i : Nat} (h : i + 1 = a.size) : ∃ x, a.toList.drop i = [x] ∧ a[a.size - 1]? = some x := by
  obtain ⟨h1, h2⟩ := drop_at (a := a) (i := i) (by omega)
  rw [drop_end h] at h2
  exact ⟨_, h2, by rw [show a.size - 1 = i by omega]; exact h1⟩
theorem up_drop {l : List Keyed} (h : Up l) (i : Nat) : Up (l.drop i) := List.Pairwise.sublist (List.drop_sublist i l) h
theorem mem_drop {l : List Keyed} {i : Nat} {x : Keyed} (h : x ∈ l.drop i) : x ∈ l := List.mem_of_mem_drop h
def setMG : Nat → StateT SortSt Sem Unit := sortPriv% PySem.Builtin.setMinGallop
theorem setMG_eq (g : Nat) : setMG g = modify fun s => SortSt.mk' (kindOf s) (arrOf s) (pendingOf s) g (failedOf s) := rfl
def mlo : Array Keyed → Array Keyed → StateT SortSt Sem (Array Keyed) := sortPriv% PySem.Builtin.mergeLo
theorem mlo_eq (a b : Array Keyed) : mlo a b = (do
  rule "list.sort.merge-lo"
  let total := a.size + b.size
  let done (out : Array Keyed) (ia ib : Nat) := out ++ a.extract ia a.size ++ b.extract ib b.size
  let lastOfA (out : Array Keyed) (ia ib : Nat) := out ++ b.extract ib b.size ++ a.extract ia a.size
  let mut out : Array Keyed := #[← elem' b 0]
  let mut ia := 0
  let mut ib := 1
  if ib == b.size then return done out ia ib
  if ia + 1 == a.size then return lastOfA out ia ib
  let mut minGallop := gallopOf (← get)
  for _ in [0:total] do
    let mut acount := 0
    let mut bcount := 0
    for _ in [0:total] do
      let some bWins ← lt' (← elem' b ib) (← elem' a ia) | return done out ia ib
      if bWins then
        out := out.push (← elem' b ib); ib := ib + 1; bcount := bcount + 1; acount := 0
        if ib == b.size then return done out ia ib
        if bcount ≥ minGallop then break
      else
        out := out.push (← elem' a ia); ia := ia + 1; acount := acount + 1; bcount := 0
        if ia + 1 == a.size then return lastOfA out ia ib
        if acount ≥ minGallop then break
    rule "list.sort.gallop"
    minGallop := minGallop + 1
    for _ in [0:total] do
      if minGallop > 1 then minGallop := minGallop - 1
      setMG minGallop
      let some k ← gal false (← elem' b ib) a ia (a.size - ia) 0 | return done out ia ib
      acount := k
      if k > 0 then
        out := out ++ a.extract ia (ia + k); ia := ia + k
        if ia + 1 == a.size then return lastOfA out ia ib
        if ia == a.size then return done out ia ib
      out := out.push (← elem' b ib); ib := ib + 1
      if ib == b.size then return done out ia ib
      let some k ← gal true (← elem' a ia) b ib (b.size - ib) 0 | return done out ia ib
      bcount := k
      if k > 0 then
        out := out ++ b.extract ib (ib + k); ib := ib + k
        if ib == b.size then return done out ia ib
      out := out.push (← elem' a ia); ia := ia + 1
      if ia + 1 == a.size then return lastOfA out ia ib
      if acount < 7 && bcount < 7 then break
    minGallop := minGallop + 1
    setMG minGallop
  unsupported "internal:list.sort.merge-bound") := rfl
def Kept (st st' : SortSt) : Prop := kindOf st' = oneType' ∧ arrOf st' = arrOf st ∧ pendingOf st' = pendingOf st ∧ failedOf st' = none
theorem Kept.mg {st st' : SortSt} (h : Kept st st') (g : Nat) : Kept st (SortSt.mk' (kindOf st') (arrOf st') (pendingOf st') g (failedOf st')) := h
structure Two (a b : Array Keyed) : Prop where
  ia : ∀ x ∈ a.toList, IntK x
  ib : ∀ x ∈ b.toList, IntK x
  ua : Up a.toList
  ub : Up b.toList
  na : 0 < a.size
  nb : 0 < b.size
  first : ∀ y, b[0]? = some y → ∀ x ∈ a.toList, kv y ≤ kv x
  last : ∀ x, a[a.size - 1]? = some x → ∀ y ∈ b.toList, kv y ≤ kv x
structure Mid (a b out : Array Keyed) (ia ib : Nat) : Prop where
  mi : MI out.toList (a.toList.drop ia) (b.toList.drop ib) (a.toList ++ b.toList)
  ha : ia + 1 < a.size
  hb : ib < b.size
theorem Mid.pushB {a b out : Array Keyed} {ia ib : Nat} (hb : ib < b.size) (M : MI out.toList (a.toList.drop ia) (b.toList.drop ib) (a.toList ++ b.toList)) (h : ∀ x ∈ a.toList.drop ia, kv b[ib] ≤ kv x) :
    MI (out.push b[ib]).toList (a.toList.drop ia) (b.toList.drop (ib + 1)) (a.toList ++ b.toList) := by
  rw [Array.toList_push]
  refine MI.moveB (p := [b[ib]]) ?_ fun x hx y hy => by rw [List.mem_singleton.mp hx]; exact h y hy
  have e := (drop_at hb).2
  rw [e] at M
  exact M
theorem Mid.pushA {a b out : Array Keyed} {ia ib : Nat} (ha : ia < a.size) (M : MI out.toList (a.toList.drop ia) (b.toList.drop ib) (a.toList ++ b.toList)) (h : ∀ x ∈ b.toList.drop ib, kv a[ia] ≤ kv x) :
    MI (out.push a[ia]).toList (a.toList.drop (ia + 1)) (b.toList.drop ib) (a.toList ++ b.toList) := by
  rw [Array.toList_push]
  refine MI.moveA (p := [a[ia]]) ?_ fun x hx y hy => by rw [List.mem_singleton.mp hx]; exact h y hy
  have e := (drop_at ha).2
  rw [e] at M
  exact M
theorem Mid.leapA {a b out : Array Keyed} {ia ib k : Nat} (M : MI out.toList (a.toList.drop ia) (b.toList.drop ib) (a.toList ++ b.toList)) (h : ∀ x ∈ (a.toList.drop ia).take k, ∀ y ∈ b.toList.drop ib, kv x ≤ kv y) :
    MI (out ++ a.extract ia (ia + k)).toList (a.toList.drop (ia + k)) (b.toList.drop ib) (a.toList ++ b.toList) := by
  rw [Array.toList_append, ext_list, show ia + k - ia = k by omega]
  refine MI.moveA ?_ h
  rw [← List.drop_drop, List.take_append_drop]
  exact M
theorem Mid.leapB {a b out : Array Keyed} {ia ib k : Nat} (M : MI out.toList (a.toList.drop ia) (b.toList.drop ib) (a.toList ++ b.toList)) (h : ∀ x ∈ (b.toList.drop ib).take k, ∀ y ∈ a.toList.drop ia, kv x ≤ kv y) :
    MI (out ++ b.extract ib (ib + k)).toList (a.toList.drop ia) (b.toList.drop (ib + k)) (a.toList ++ b.toList) := by
  rw [Array.toList_append, ext_list, show ib + k - ib = k by omega]
  refine MI.moveB ?_ h
  rw [← List.drop_drop, List.take_append_drop]
  exact M
theorem fin_done {a b out : Array Keyed} {ia ib : Nat} (M : MI out.toList (a.toList.drop ia) (b.toList.drop ib) (a.toList ++ b.toList)) (h : ia = a.size ∨ ib = b.size) : Good (a.toList ++ b.toList) (out ++ a.extract ia a.size ++ b.extract ib b.size).toList := by
  rw [Array.toList_append, Array.toList_append, ext_end, ext_end]
  refine M.done ?_
  rcases h with z | z
  · exact .inl (drop_end z)
  · exact .inr (drop_end z)
theorem fin_last {a b out : Array Keyed} {ia ib : Nat} (T : Two a b) (M : MI out.toList (a.toList.drop ia) (b.toList.drop ib) (a.toList ++ b.toList)) (h : ia + 1 = a.size) : Good (a.toList ++ b.toList) (out ++ b.extract ib b.size ++ a.extract ia a.size).toList := by
  rw [Array.toList_append, Array.toList_append, ext_end, ext_end]
  obtain ⟨x, h1, h2⟩ := drop_last h
  rw [h1] at M ⊢
  exact M.last fun y hy => T.last x h2 y (mem_drop hy)
theorem head_le {a : Array Keyed} {i : Nat} (h : i < a.size) (u : Up a.toList) : ∀ x ∈ a.toList.drop i, kv a[i] ≤ kv x := fun x hx => by
  have u2 := up_drop u i
  rw [(drop_at h).2] at u2 hx
  rcases List.mem_cons.mp hx with z | z
  · rw [z]; exact Int.le_refl _
  · exact (List.pairwise_cons.mp u2).1 x z
theorem up_at {a : Array Keyed} (u : Up a.toList) {i j : Nat} (hi : i ≤ j) (hj : j < a.size) : kv a[i] ≤ kv a[j] := by
  by_cases z : i = j
  · subst z; exact Int.le_refl _
  · exact List.pairwise_iff_getElem.mp u i j (by rw [Array.length_toList]; omega) (by rw [Array.length_toList]; exact hj) (by omega)
theorem mem_at {a : Array Keyed} {i : Nat} (h : i < a.size) : a[i] ∈ a.toList := by simp
theorem gal_right {a : Array Keyed} {key : Keyed} {ia : Nat} (hi : ∀ x ∈ a.toList, IntK x) (u : Up a.toList) (hk : IntK key) (h : ia ≤ a.size) : Gal false key a ia (a.size - ia) (fun i => if h : ia + i < a.size then !decide (kv key < kv a[ia + i]) else false) := by
  refine ⟨hk, fun i hi' => ⟨a[ia + i], getElem?_pos a (ia + i) (by omega), hi _ (mem_at (by omega)), ?_⟩, fun i j hij hj e => ?_⟩
  · show (if h : ia + i < a.size then !decide (kv key < kv a[ia + i]) else false) = _
    rw [dif_pos (by omega)]
    rfl
  · rw [dif_pos (show ia + j < a.size by omega)] at e
    show (if h : ia + i < a.size then !decide (kv key < kv a[ia + i]) else false) = true
    rw [dif_pos (show ia + i < a.size by omega)]
    have m := up_at u (show ia + i ≤ ia + j by omega) (by omega)
    have e' : ¬ kv key < kv a[ia + j] := by simpa using e
    have : ¬ kv key < kv a[ia + i] := by omega
    simpa using this
theorem gal_left {a : Array Keyed} {key : Keyed} {ia : Nat} (hi : ∀ x ∈ a.toList, IntK x) (u : Up a.toList) (hk : IntK key) (h : ia ≤ a.size) : Gal true key a ia (a.size - ia) (fun i => if h : ia + i < a.size then decide (kv a[ia + i] < kv key) else false) := by
  refine ⟨hk, fun i hi' => ⟨a[ia + i], getElem?_pos a (ia + i) (by omega), hi _ (mem_at (by omega)), ?_⟩, fun i j hij hj e => ?_⟩
  · show (if h : ia + i < a.size then decide (kv a[ia + i] < kv key) else false) = _
    rw [dif_pos (by omega)]
    rfl
  · rw [dif_pos (show ia + j < a.size by omega)] at e
    show (if h : ia + i < a.size then decide (kv a[ia + i] < kv key) else false) = true
    rw [dif_pos (show ia + i < a.size by omega)]
    have m := up_at u (show ia + i ≤ ia + j by omega) (by omega)
    have e' : kv a[ia + j] < kv key := by simpa using e
    have : kv a[ia + i] < kv key := by omega
    simpa using this
theorem mem_part {a : Array Keyed} {i k : Nat} {x : Keyed} (h : x ∈ (a.toList.drop i).take k) : ∃ j, j < k ∧ ∃ hj : i + j < a.size, x = a[i + j] := by
  obtain ⟨j, hj, e⟩ := List.getElem_of_mem h
  rw [List.length_take, List.length_drop, Array.length_toList] at hj
  refine ⟨j, by omega, by omega, ?_⟩
  rw [← e, List.getElem_take, List.getElem_drop]
  rfl
theorem mem_rest {a : Array Keyed} {i : Nat} {x : Keyed} (h : x ∈ a.toList.drop i) : ∃ j, i ≤ j ∧ ∃ hj : j < a.size, x = a[j] := by
  obtain ⟨j, hj, e⟩ := List.getElem_of_mem h
  rw [List.length_drop, Array.length_toList] at hj
  refine ⟨i + j, by omega, by omega, ?_⟩
  rw [← e, List.getElem_drop]
  rfl
theorem mem_rest2 {a : Array Keyed} {i k : Nat} {x : Keyed} (h : x ∈ a.toList.drop (i + k)) : ∃ d, k ≤ d ∧ ∃ hd : i + d < a.size, x = a[i + d] := by
  obtain ⟨j, hj, e⟩ := List.getElem_of_mem h
  rw [List.length_drop, Array.length_toList] at hj
  refine ⟨k + j, by omega, by omega, ?_⟩
  rw [← e, List.getElem_drop]
  show a[i + k + j] = a[i + (k + j)]
  congr 1
  omega
section
variable {prog : Program} {w : World} {A : Around} {E : Value → Shared → Prop} {s : Shared}
theorem wp_ite {c : Prop} [Decidable c] {σ α : Type} {m1 m2 : StateT σ Sem α} {Q : α → σ → Prop} {st : σ} (h1 : c → wpS (model prog w) A E s m1 Q st) (h2 : ¬ c → wpS (model prog w) A E s m2 Q st) : wpS (model prog w) A E s (if c then m1 else m2) Q st := by
  by_cases h : c
  · rw [if_pos h]; exact h1 h
  · rw [if_neg h]; exact h2 h
theorem wp_setMG {g : Nat} {st0 st : SortSt} {Q : Unit → SortSt → Prop} (hk : Kept st0 st) (h : ∀ st', Kept st0 st' → Q () st') : wpS (model prog w) A E s (setMG g) Q st := by
  rw [setMG_eq]
  exact wpS_modify (h _ (hk.mg g))
theorem wp_mlo {a b : Array Keyed} {st : SortSt} {Q : Array Keyed → SortSt → Prop} (T : Two a b) (hk : Kept st st) (q : ∀ r st', Good (a.toList ++ b.toList) r.toList → Kept st st' → Q r st') : wpS (model prog w) A E s (mlo a b) Q st := by
  rw [mlo_eq]
  have hA := T.na
  have hB := T.nb
  refine wpS_bind (wpS_lift (wpAny_rule ⟨rfl, ?_⟩))
  dsimp only
  refine wpS_bind (wp_elem (drop_at hB).1 ?_)
  have M0 : MI (#[] : Array Keyed).toList (a.toList.drop 0) (b.toList.drop 0) (a.toList ++ b.toList) := ⟨List.Perm.refl _, List.Pairwise.nil, T.ua, T.ub, fun x hx => by cases hx⟩
  have M1 := Mid.pushB hB M0 fun x hx => T.first _ (drop_at hB).1 x hx
  have e0 : (#[] : Array Keyed).push b[0] = #[b[0]] := rfl
  rw [e0] at M1
  by_cases hb1 : 1 = b.size
  · rw [if_pos (by simpa using hb1)]
    exact wpS_pure (q _ _ (fin_done M1 (.inr hb1)) hk)
  rw [if_neg (by simpa using hb1)]
  by_cases ha1 : 0 + 1 = a.size
  · rw [if_pos (by simpa using ha1)]
    exact wpS_pure (q _ _ (fin_last T M1 ha1) hk)
  rw [if_neg (by simpa using ha1)]
  refine wpS_bind (wpS_get ?_)
  have M2 : Mid a b #[b[0]] 0 1 := ⟨M1, by omega, by omega⟩
  refine wpS_bind (wpS_mono (wpS_forRange
    (I := fun x c st' => Kept st st' ∧ ∃ out ia ib mg, c = (none, out, ia, ib, mg) ∧ Mid a b out ia ib ∧ x < ia + ib)
    (Q := fun c st' => Kept st st' ∧ ∃ r out ia ib mg, c = (some r, out, ia, ib, mg) ∧ Good (a.toList ++ b.toList) r.toList) ?step ?fin ⟨hk, _, _, _, _, rfl, M2, by omega⟩) ?post)
  case fin =>
    rintro c st' ⟨_, out, ia, ib, mg, rfl, M, hx⟩
    have := M.ha; have := M.hb
    omega
  case post =>
    rintro c st' ⟨hk', r, out, ia, ib, mg, rfl, g⟩
    exact wpS_pure (q r st' g hk')
  case step =>
    rintro x c st1 _ hx ⟨hk1, out, ia, ib, mg, rfl, M, hlt⟩
    dsimp only
    refine wpS_bind (wpS_mono (wpS_forRange
      (I := fun y c st' => st' = st1 ∧ ∃ out ia ib ac bc, c = (none, out, ia, ib, ac, bc) ∧ Mid a b out ia ib ∧ x + y < ia + ib)
      (Q := fun c st' => st' = st1 ∧ ((∃ r out ia ib ac bc, c = (some r, out, ia, ib, ac, bc) ∧ Good (a.toList ++ b.toList) r.toList) ∨ ∃ out ia ib ac bc, c = (none, out, ia, ib, ac, bc) ∧ Mid a b out ia ib ∧ x + 1 < ia + ib)) ?step1 ?fin1 ⟨rfl, _, _, _, _, _, rfl, M, by omega⟩) ?post1)
    case fin1 =>
      rintro c st' ⟨_, out, ia, ib, ac, bc, rfl, M, hx⟩
      have := M.ha; have := M.hb
      omega
    case step1 =>
      rintro y c st' _ hy ⟨rfl, out, ia, ib, ac, bc, rfl, M, hlt⟩
      have ha := M.ha
      have hb := M.hb
      dsimp only
      refine wpS_bind (wp_elem (drop_at hb).1 (wpS_bind (wp_elem (drop_at (show ia < a.size by omega)).1 (wpS_bind (wp_lt hk1.1 (T.ib _ (mem_at hb)) (T.ia _ (mem_at (by omega))) ?_)))))
      dsimp only
      by_cases hw : kv b[ib] < kv a[ia]
      · rw [if_pos (by simpa using hw)]
        refine wpS_bind (wp_elem (drop_at hb).1 ?_)
        have N := Mid.pushB hb M.mi fun x hx => by have := head_le (show ia < a.size by omega) T.ua x hx; omega
        by_cases he : ib + 1 = b.size
        · rw [if_pos (by simpa using he)]
          exact wpS_pure ⟨rfl, .inl ⟨_, _, _, _, _, _, rfl, fin_done N (.inr he)⟩⟩
        · rw [if_neg (by simpa using he)]
          by_cases hg : bc + 1 ≥ mg
          · rw [if_pos hg]
            exact wpS_pure ⟨rfl, .inr ⟨_, _, _, _, _, rfl, ⟨N, ha, by omega⟩, by omega⟩⟩
          · rw [if_neg hg]
            exact wpS_pure ⟨rfl, _, _, _, _, _, rfl, ⟨N, ha, by omega⟩, by omega⟩
      · rw [if_neg (by simpa using hw)]
        refine wpS_bind (wp_elem (drop_at (show ia < a.size by omega)).1 ?_)
        have N := Mid.pushA (show ia < a.size by omega) M.mi fun x hx => by have := head_le hb T.ub x hx; omega
        by_cases he : ia + 1 + 1 = a.size
        · rw [if_pos (by simpa using he)]
          exact wpS_pure ⟨rfl, .inl ⟨_, _, _, _, _, _, rfl, fin_last T N he⟩⟩
        · rw [if_neg (by simpa using he)]
          by_cases hg : ac + 1 ≥ mg
          · rw [if_pos hg]
            exact wpS_pure ⟨rfl, .inr ⟨_, _, _, _, _, rfl, ⟨N, by omega, hb⟩, by omega⟩⟩
          · rw [if_neg hg]
            exact wpS_pure ⟨rfl, _, _, _, _, _, rfl, ⟨N, by omega, hb⟩, by omega⟩
    case post1 =>
      rintro c st' ⟨rfl, ⟨r, out, ia, ib, ac, bc, rfl, g⟩ | ⟨out, ia, ib, ac, bc, rfl, M, hlt⟩⟩
      · exact wpS_pure ⟨hk1, r, out, ia, ib, mg, rfl, g⟩
      dsimp only
      refine wpS_bind (wpS_lift (wpAny_rule ⟨rfl, ?_⟩))
      refine wpS_bind (wpS_mono (wpS_forRange
        (I := fun y c st' => Kept st st' ∧ ∃ out ia ib mg ac bc, c = (none, out, ia, ib, mg, ac, bc) ∧ Mid a b out ia ib ∧ x + 1 + y < ia + ib)
        (Q := fun c st' => Kept st st' ∧ ((∃ r out ia ib mg ac bc, c = (some r, out, ia, ib, mg, ac, bc) ∧ Good (a.toList ++ b.toList) r.toList) ∨ ∃ out ia ib mg ac bc, c = (none, out, ia, ib, mg, ac, bc) ∧ Mid a b out ia ib ∧ x + 1 < ia + ib)) ?step2 ?fin2 ⟨hk1, _, _, _, _, _, _, rfl, M, by omega⟩) ?post2)
      case fin2 =>
        rintro c st' ⟨_, out, ia, ib, mg, ac, bc, rfl, M, hx⟩
        have := M.ha; have := M.hb
        omega
      case post2 =>
        rintro c st' ⟨hk2, ⟨r, out, ia, ib, mg, ac, bc, rfl, g⟩ | ⟨out, ia, ib, mg, ac, bc, rfl, M, hlt⟩⟩
        · exact wpS_pure ⟨hk2, r, out, ia, ib, mg, rfl, g⟩
        · dsimp only
          rw [setMG_eq]
          exact wpS_bind (wpS_modify (wpS_pure ⟨hk2.mg _, _, _, _, _, rfl, M, by omega⟩))
      case step2 =>
        rintro y c st2 _ hy ⟨hk2, out, ia, ib, mg, ac, bc, rfl, M, hlt⟩
        dsimp only
        have ha := M.ha
        have hb := M.hb
        refine' (fun (hh : ∀ m2 : Nat, (_ : Nat → Prop) m2) => ?one) ?two
        case one =>
          by_cases hm : mg > 1
          · rw [if_pos hm]; generalize mg - 1 = m2; revert m2; exact hh
          · rw [if_neg hm]; generalize mg = m2; revert m2; exact hh
        case two =>
          intro mg
          refine wpS_bind (wp_setMG hk2 fun st3 hk3 => ?_)
          refine wpS_bind (wp_elem (drop_at hb).1 ?_)
          refine wpS_bind (wp_gal (gal_right T.ia T.ua (T.ib _ (mem_at hb)) (show ia ≤ a.size by omega)) hk3.1 (show 0 < a.size - ia by omega) fun k hkn hlo hhi => ?_)
          dsimp only
          have fa : ∀ x ∈ (a.toList.drop ia).take k, ∀ y ∈ b.toList.drop ib, kv x ≤ kv y := fun x hx y hy => by
            obtain ⟨j, hj, hja, rfl⟩ := mem_part hx
            have e := hlo j hj
            rw [dif_pos hja] at e
            have e' : ¬ kv b[ib] < kv a[ia + j] := by simpa using e
            have := head_le hb T.ub y hy
            omega
          have fb : ∀ x ∈ a.toList.drop (ia + k), kv b[ib] ≤ kv x := fun x hx => by
            obtain ⟨j, hj, hja, rfl⟩ := mem_rest2 hx
            have e := hhi j hj (by omega)
            rw [dif_pos hja] at e
            have e' : kv b[ib] < kv a[ia + j] := by simpa using e
            omega
          have N := Mid.leapA (k := k) M.mi fa
          refine' (fun (hh : ∀ (k i2 : Nat) (o2 : Array Keyed), (_ : Nat → Nat → Array Keyed → Prop) k i2 o2) => ?one2) ?two2
          case one2 =>
            by_cases hk0 : k > 0
            · rw [if_pos hk0]
              by_cases he : ia + k + 1 = a.size
              · rw [if_pos (by simpa using he)]
                exact wpS_pure ⟨hk3, .inl ⟨_, _, _, _, _, _, _, rfl, fin_last T N he⟩⟩
              rw [if_neg (by simpa using he)]
              by_cases he2 : ia + k = a.size
              · rw [if_pos (by simpa using he2)]
                exact wpS_pure ⟨hk3, .inl ⟨_, _, _, _, _, _, _, rfl, fin_done N (.inl he2)⟩⟩
              rw [if_neg (by simpa using he2)]
              have P1 := N
              have P2 : ia + k + 1 < a.size := by omega
              have P3 := fb
              have P4 : x + 1 + y < ia + k + ib := by omega
              generalize out ++ a.extract ia (ia + k) = o2 at P1 ⊢
              generalize ia + k = i2 at P1 P2 P3 P4 ⊢
              generalize k = k' at P1 P2 P3 P4 ⊢
              revert P4; revert P3; revert P2; revert P1
              exact hh k' i2 o2
            · rw [if_neg hk0]
              have hk00 : k = 0 := by omega
              have P1 := M.mi
              have P2 := ha
              have P3 : ∀ x ∈ a.toList.drop ia, kv b[ib] ≤ kv x := fun x hx => fb x (by rw [hk00]; exact hx)
              have P4 := hlt
              revert P4; revert P3; revert P2; revert P1
              exact hh k ia out
          case two2 =>
            clear N fb fa hlo hhi hlt M hkn ha
            intro k i2 o2 P1 P2 P3 P4
            refine wpS_bind (wp_elem (drop_at hb).1 ?_)
            have N2 := Mid.pushB hb P1 P3
            by_cases he : ib + 1 = b.size
            · rw [if_pos (by simpa using he)]
              exact wpS_pure ⟨hk3, .inl ⟨_, _, _, _, _, _, _, rfl, fin_done N2 (.inr he)⟩⟩
            rw [if_neg (by simpa using he)]
            have hi2 : i2 < a.size := by omega
            refine wpS_bind (wp_elem (drop_at hi2).1 ?_)
            refine wpS_bind (wp_gal (gal_left T.ib T.ub (T.ia _ (mem_at hi2)) (show ib + 1 ≤ b.size by omega)) hk3.1 (show 0 < b.size - (ib + 1) by omega) fun k2 hkn2 hlo2 hhi2 => ?_)
            dsimp only
            have ga : ∀ x ∈ (b.toList.drop (ib + 1)).take k2, ∀ y ∈ a.toList.drop i2, kv x ≤ kv y := fun x hx y hy => by
              obtain ⟨j, hj, hja, rfl⟩ := mem_part hx
              have e := hlo2 j hj
              rw [dif_pos hja] at e
              have e' : kv b[ib + 1 + j] < kv a[i2] := by simpa using e
              have := head_le hi2 T.ua y hy
              omega
            have gb : ∀ x ∈ b.toList.drop (ib + 1 + k2), kv a[i2] ≤ kv x := fun x hx => by
              obtain ⟨j, hj, hja, rfl⟩ := mem_rest2 hx
              have e := hhi2 j hj (by omega)
              rw [dif_pos hja] at e
              have e' : ¬ kv b[ib + 1 + j] < kv a[i2] := by simpa using e
              omega
            have N3 := Mid.leapB (k := k2) N2 ga
            refine' (fun (hh : ∀ (k2 j2 : Nat) (o3 : Array Keyed), (_ : Nat → Nat → Array Keyed → Prop) k2 j2 o3) => ?one3) ?two3
            case one3 =>
              by_cases hk20 : k2 > 0
              · rw [if_pos hk20]
                by_cases he2 : ib + 1 + k2 = b.size
                · rw [if_pos (by simpa using he2)]
                  exact wpS_pure ⟨hk3, .inl ⟨_, _, _, _, _, _, _, rfl, fin_done N3 (.inr he2)⟩⟩
                rw [if_neg (by simpa using he2)]
                have R1 := N3
                have R2 : ib + 1 + k2 < b.size := by omega
                have R3 := gb
                have R4 : x + 1 + y + 1 < i2 + (ib + 1 + k2) := by omega
                generalize o2.push b[ib] ++ b.extract (ib + 1) (ib + 1 + k2) = o3 at R1 ⊢
                generalize ib + 1 + k2 = j2 at R1 R2 R3 R4 ⊢
                generalize k2 = k' at R1 R2 R3 R4 ⊢
                revert R4; revert R3; revert R2; revert R1
                exact hh k' j2 o3
              · rw [if_neg hk20]
                have hk00 : k2 = 0 := by omega
                have R1 := N2
                have R2 : ib + 1 < b.size := by omega
                have R3 : ∀ x ∈ b.toList.drop (ib + 1), kv a[i2] ≤ kv x := fun x hx => gb x (by rw [hk00]; exact hx)
                have R4 : x + 1 + y + 1 < i2 + (ib + 1) := by omega
                revert R4; revert R3; revert R2; revert R1
                exact hh k2 (ib + 1) (o2.push b[ib])
            case two3 =>
              clear N3 gb ga hlo2 hhi2 N2 hkn2
              intro k2 j2 o3 R1 R2 R3 R4
              refine wpS_bind (wp_elem (drop_at hi2).1 ?_)
              have N4 := Mid.pushA hi2 R1 R3
              by_cases he3 : i2 + 1 + 1 = a.size
              · rw [if_pos (by simpa using he3)]
                exact wpS_pure ⟨hk3, .inl ⟨_, _, _, _, _, _, _, rfl, fin_last T N4 he3⟩⟩
              rw [if_neg (by simpa using he3)]
              refine wp_ite (fun _ => ?_) (fun _ => ?_)
              · exact wpS_pure ⟨hk3, .inr ⟨_, _, _, _, _, _, rfl, ⟨N4, by omega, R2⟩, by omega⟩⟩
              · exact wpS_pure ⟨hk3, _, _, _, _, _, _, rfl, ⟨N4, by omega, R2⟩, by omega⟩
end
end Srt

set_option Elab.async false
set_option linter.all false
set_option maxRecDepth 100000
set_option maxHeartbeats 4000000
namespace Srt
open PySem PyProof.Rows
structure MH (ra rb out all : List Keyed) : Prop where
  perm : (ra ++ rb ++ out).Perm all
  so : Up out
  sa : Up ra
  sb : Up rb
  le : ∀ y ∈ out, ∀ x, x ∈ ra ∨ x ∈ rb → kv x ≤ kv y
theorem MH.moveA {out p ra rb all : List Keyed} (M : MH (ra ++ p) rb out all) (h : ∀ x ∈ p, ∀ y ∈ rb, kv y ≤ kv x) : MH ra rb (p ++ out) all := by
  obtain ⟨s1, s2, s3⟩ := List.pairwise_append.mp M.sa
  refine ⟨?_, List.pairwise_append.mpr ⟨s2, M.so, fun x hx y hy => M.le y hy x (.inl (List.mem_append_right _ hx))⟩, s1, M.sb, fun y hy x hx => ?_⟩
  · refine List.Perm.trans ?_ M.perm
    rw [← List.append_assoc]
    refine List.Perm.append_right out ?_
    rw [List.append_assoc, List.append_assoc]
    exact List.Perm.append_left ra List.perm_append_comm
  rcases List.mem_append.mp hy with z | z
  · rcases hx with w | w
    · exact s3 x w y z
    · exact h y z x w
  · rcases hx with w | w
    · exact M.le y z x (.inl (List.mem_append_left _ w))
    · exact M.le y z x (.inr w)
theorem MH.moveB {out p ra rb all : List Keyed} (M : MH ra (rb ++ p) out all) (h : ∀ x ∈ p, ∀ y ∈ ra, kv y ≤ kv x) : MH ra rb (p ++ out) all := by
  obtain ⟨s1, s2, s3⟩ := List.pairwise_append.mp M.sb
  refine ⟨?_, List.pairwise_append.mpr ⟨s2, M.so, fun x hx y hy => M.le y hy x (.inr (List.mem_append_right _ hx))⟩, M.sa, s1, fun y hy x hx => ?_⟩
  · have := M.perm
    rw [← List.append_assoc ra rb p] at this
    rw [← List.append_assoc]
    exact this
  rcases List.mem_append.mp hy with z | z
  · rcases hx with w | w
    · exact h y z x w
    · exact s3 x w y z
  · rcases hx with w | w
    · exact M.le y z x (.inl w)
    · exact M.le y z x (.inr (List.mem_append_left _ w))
theorem MH.done {out ra rb all : List Keyed} (M : MH ra rb out all) (h : ra = [] ∨ rb = []) : Good all (ra ++ rb ++ out) := by
  refine ⟨M.perm, ?_⟩
  rcases h with z | z
  · rw [z, List.nil_append]
    exact List.pairwise_append.mpr ⟨M.sb, M.so, fun x hx y hy => M.le y hy x (.inr hx)⟩
  · rw [z, List.append_nil]
    exact List.pairwise_append.mpr ⟨M.sa, M.so, fun x hx y hy => M.le y hy x (.inl hx)⟩
theorem MH.first {out ra all : List Keyed} {x : Keyed} (M : MH ra [x] out all) (h : ∀ y ∈ ra, kv x ≤ kv y) : Good all ([x] ++ ra ++ out) := by
  have M2 : MH ([] ++ ra) [x] out all := M
  have M3 := M2.moveA fun y hy z hz => by rw [List.mem_singleton.mp hz]; exact h y hy
  have := M3.done (.inl rfl)
  rw [List.nil_append, ← List.append_assoc] at this
  exact this
theorem take_at {a : Array Keyed} {i : Nat} (h : i < a.size) : a.toList.take (i + 1) = a.toList.take i ++ [a[i]] := by
  rw [List.take_succ_eq_append_getElem (by rw [Array.length_toList]; exact h)]
  rfl
theorem ext_begin (a : Array Keyed) (n : Nat) : (a.extract 0 n).toList = a.toList.take n := by
  rw [ext_list, List.drop_zero, Nat.sub_zero]
theorem take_part (a : Array Keyed) {i n : Nat} (h : i ≤ n) : a.toList.take n = a.toList.take i ++ (a.extract i n).toList := by
  have e : n = i + (n - i) := by omega
  rw [ext_list]
  conv => lhs; rw [e]
  exact List.take_add
theorem mem_take {a : Array Keyed} {n : Nat} {x : Keyed} (h : x ∈ a.toList.take n) : ∃ j, j < n ∧ ∃ hj : j < a.size, x = a[j] := by
  obtain ⟨j, hj, e⟩ := List.getElem_of_mem h
  rw [List.length_take, Array.length_toList] at hj
  refine ⟨j, by omega, by omega, ?_⟩
  rw [← e, List.getElem_take]
  rfl
theorem mem_ext {a : Array Keyed} {i n : Nat} {x : Keyed} (h : x ∈ (a.extract i n).toList) : ∃ j, i ≤ j ∧ j < n ∧ ∃ hj : j < a.size, x = a[j] := by
  rw [ext_list] at h
  obtain ⟨j, hj, h1, rfl⟩ := mem_part h
  exact ⟨i + j, by omega, by omega, h1, rfl⟩
structure Hid (a b out : Array Keyed) (na nb : Nat) : Prop where
  mh : MH (a.toList.take na) (b.toList.take nb) out.toList.reverse (a.toList ++ b.toList)
  ha : na ≤ a.size
  hb : nb ≤ b.size
  na : 1 ≤ na
  nb : 2 ≤ nb
theorem Hid.pushA {a b out : Array Keyed} {na nb : Nat} (ha : na < a.size) (M : MH (a.toList.take (na + 1)) (b.toList.take nb) out.toList.reverse (a.toList ++ b.toList)) (h : ∀ x ∈ b.toList.take nb, kv x ≤ kv a[na]) :
    MH (a.toList.take na) (b.toList.take nb) (out.push a[na]).toList.reverse (a.toList ++ b.toList) := by
  rw [Array.toList_push, List.reverse_append]
  rw [take_at ha] at M
  exact M.moveA fun x hx y hy => by rw [List.mem_singleton.mp hx]; exact h y hy
theorem Hid.pushB {a b out : Array Keyed} {na nb : Nat} (hb : nb < b.size) (M : MH (a.toList.take na) (b.toList.take (nb + 1)) out.toList.reverse (a.toList ++ b.toList)) (h : ∀ x ∈ a.toList.take na, kv x ≤ kv b[nb]) :
    MH (a.toList.take na) (b.toList.take nb) (out.push b[nb]).toList.reverse (a.toList ++ b.toList) := by
  rw [Array.toList_push, List.reverse_append]
  rw [take_at hb] at M
  exact M.moveB fun x hx y hy => by rw [List.mem_singleton.mp hx]; exact h y hy
theorem Hid.leapA {a b out : Array Keyed} {na nb i : Nat} (hi : i ≤ na) (M : MH (a.toList.take na) (b.toList.take nb) out.toList.reverse (a.toList ++ b.toList)) (h : ∀ x ∈ (a.extract i na).toList, ∀ y ∈ b.toList.take nb, kv y ≤ kv x) :
    MH (a.toList.take i) (b.toList.take nb) (out ++ (a.extract i na).reverse).toList.reverse (a.toList ++ b.toList) := by
  rw [Array.toList_append, Array.toList_reverse, List.reverse_append, List.reverse_reverse]
  rw [take_part a hi] at M
  exact M.moveA h
theorem Hid.leapB {a b out : Array Keyed} {na nb i : Nat} (hi : i ≤ nb) (M : MH (a.toList.take na) (b.toList.take nb) out.toList.reverse (a.toList ++ b.toList)) (h : ∀ x ∈ (b.extract i nb).toList, ∀ y ∈ a.toList.take na, kv y ≤ kv x) :
    MH (a.toList.take na) (b.toList.take i) (out ++ (b.extract i nb).reverse).toList.reverse (a.toList ++ b.toList) := by
  rw [Array.toList_append, Array.toList_reverse, List.reverse_append, List.reverse_reverse]
  rw [take_part b hi] at M
  exact M.moveB h
theorem fin_doneH {a b out : Array Keyed} {na nb : Nat} (M : MH (a.toList.take na) (b.toList.take nb) out.toList.reverse (a.toList ++ b.toList)) (h : na = 0 ∨ nb = 0) : Good (a.toList ++ b.toList) (a.extract 0 na ++ b.extract 0 nb ++ out.reverse).toList := by
  rw [Array.toList_append, Array.toList_append, ext_begin, ext_begin, Array.toList_reverse]
  refine M.done ?_
  rcases h with z | z
  · exact .inl (by rw [z, List.take_zero])
  · exact .inr (by rw [z, List.take_zero])
theorem fin_firstH {a b out : Array Keyed} {na nb : Nat} (T : Two a b) (M : MH (a.toList.take na) (b.toList.take nb) out.toList.reverse (a.toList ++ b.toList)) (h : nb = 1) : Good (a.toList ++ b.toList) (b.extract 0 nb ++ a.extract 0 na ++ out.reverse).toList := by
  rw [Array.toList_append, Array.toList_append, ext_begin, ext_begin, Array.toList_reverse]
  have e : b.toList.take nb = [b[0]'T.nb] := by
    rw [h]
    exact take_at T.nb
  rw [e] at M ⊢
  exact M.first fun y hy => T.first _ (drop_at T.nb).1 y (List.mem_of_mem_take hy)
theorem last_ge {a : Array Keyed} {n : Nat} (h : n < a.size) (u : Up a.toList) : ∀ x ∈ a.toList.take (n + 1), kv x ≤ kv a[n] := fun x hx => by
  obtain ⟨j, hj, hja, rfl⟩ := mem_take hx
  exact up_at u (show j ≤ n by omega) h
theorem galR {a : Array Keyed} {key : Keyed} {n : Nat} (hi : ∀ x ∈ a.toList, IntK x) (u : Up a.toList) (hk : IntK key) (h : n ≤ a.size) : Gal false key a 0 n (fun i => if h : 0 + i < a.size then !decide (kv key < kv a[0 + i]) else false) := by
  have g := gal_right (key := key) (ia := 0) hi u hk (Nat.zero_le _)
  exact ⟨hk, fun i hi' => g.at' i (by omega), fun i j hij hj => g.mono i j hij (by omega)⟩
theorem galL {a : Array Keyed} {key : Keyed} {n : Nat} (hi : ∀ x ∈ a.toList, IntK x) (u : Up a.toList) (hk : IntK key) (h : n ≤ a.size) : Gal true key a 0 n (fun i => if h : 0 + i < a.size then decide (kv a[0 + i] < kv key) else false) := by
  have g := gal_left (key := key) (ia := 0) hi u hk (Nat.zero_le _)
  exact ⟨hk, fun i hi' => g.at' i (by omega), fun i j hij hj => g.mono i j hij (by omega)⟩
def mhi : Array Keyed → Array Keyed → StateT SortSt Sem (Array Keyed) := sortPriv% PySem.Builtin.mergeHi
theorem mhi_eq (a b : Array Keyed) : mhi a b = (do
  rule "list.sort.merge-hi"
  let total := a.size + b.size
  let done (out : Array Keyed) (na nb : Nat) := a.extract 0 na ++ b.extract 0 nb ++ out.reverse
  let firstOfB (out : Array Keyed) (na nb : Nat) := b.extract 0 nb ++ a.extract 0 na ++ out.reverse
  let mut na := a.size - 1
  let mut nb := b.size
  let mut out : Array Keyed := #[← elem' a na]
  if na == 0 then return done out na nb
  if nb == 1 then return firstOfB out na nb
  let mut minGallop := gallopOf (← get)
  for _ in [0:total] do
    let mut acount := 0
    let mut bcount := 0
    for _ in [0:total] do
      let some aWins ← lt' (← elem' b (nb - 1)) (← elem' a (na - 1)) | return done out na nb
      if aWins then
        na := na - 1; out := out.push (← elem' a na); acount := acount + 1; bcount := 0
        if na == 0 then return done out na nb
        if acount ≥ minGallop then break
      else
        nb := nb - 1; out := out.push (← elem' b nb); bcount := bcount + 1; acount := 0
        if nb == 1 then return firstOfB out na nb
        if bcount ≥ minGallop then break
    rule "list.sort.gallop"
    minGallop := minGallop + 1
    for _ in [0:total] do
      if minGallop > 1 then minGallop := minGallop - 1
      setMG minGallop
      let some at_ ← gal false (← elem' b (nb - 1)) a 0 na (na - 1) | return done out na nb
      let k := na - at_
      acount := k
      if k > 0 then
        out := out ++ (a.extract at_ na).reverse; na := at_
        if na == 0 then return done out na nb
      nb := nb - 1; out := out.push (← elem' b nb)
      if nb == 1 then return firstOfB out na nb
      let some at_ ← gal true (← elem' a (na - 1)) b 0 nb (nb - 1) | return done out na nb
      let k := nb - at_
      bcount := k
      if k > 0 then
        out := out ++ (b.extract at_ nb).reverse; nb := at_
        if nb == 1 then return firstOfB out na nb
        if nb == 0 then return done out na nb
      na := na - 1; out := out.push (← elem' a na)
      if na == 0 then return done out na nb
      if acount < 7 && bcount < 7 then break
    minGallop := minGallop + 1
    setMG minGallop
  unsupported "internal:list.sort.merge-bound") := rfl
section
variable {prog : Program} {w : World} {A : Around} {E : Value → Shared → Prop} {s : Shared}
theorem wp_mhi {a b : Array Keyed} {st : SortSt} {Q : Array Keyed → SortSt → Prop} (T : Two a b) (hk : Kept st st) (q : ∀ r st', Good (a.toList ++ b.toList) r.toList → Kept st st' → Q r st') : wpS (model prog w) A E s (mhi a b) Q st := by
  rw [mhi_eq]
  have hA := T.na
  have hB := T.nb
  refine wpS_bind (wpS_lift (wpAny_rule ⟨rfl, ?_⟩))
  dsimp only
  have hla : a.size - 1 < a.size := by omega
  refine wpS_bind (wp_elem (drop_at hla).1 ?_)
  have ta : a.toList.take (a.size - 1 + 1) = a.toList := List.take_of_length_le (by rw [Array.length_toList]; omega)
  have tb : b.toList.take b.size = b.toList := List.take_of_length_le (by rw [Array.length_toList]; exact Nat.le_refl _)
  have M0 : MH (a.toList.take (a.size - 1 + 1)) (b.toList.take b.size) (#[] : Array Keyed).toList.reverse (a.toList ++ b.toList) := by
    rw [ta, tb]
    exact ⟨by show (a.toList ++ b.toList ++ []).Perm _; rw [List.append_nil], List.Pairwise.nil, T.ua, T.ub, fun x hx => by cases hx⟩
  have M1 := Hid.pushA hla M0 fun x hx => T.last _ (drop_at hla).1 x (List.mem_of_mem_take hx)
  have e0 : (#[] : Array Keyed).push a[a.size - 1] = #[a[a.size - 1]] := rfl
  rw [e0] at M1
  by_cases ha1 : a.size - 1 = 0
  · rw [if_pos (by simpa using ha1)]
    exact wpS_pure (q _ _ (fin_doneH M1 (.inl ha1)) hk)
  rw [if_neg (by simpa using ha1)]
  by_cases hb1 : b.size = 1
  · rw [if_pos (by simpa using hb1)]
    exact wpS_pure (q _ _ (fin_firstH T M1 hb1) hk)
  rw [if_neg (by simpa using hb1)]
  refine wpS_bind (wpS_get ?_)
  have M2 : Hid a b #[a[a.size - 1]] (a.size - 1) b.size := ⟨M1, by omega, by omega, by omega, by omega⟩
  refine wpS_bind (wpS_mono (wpS_forRange
    (I := fun x c st' => Kept st st' ∧ ∃ na nb out mg, c = (none, na, nb, out, mg) ∧ Hid a b out na nb ∧ x + (na + nb) < a.size + b.size)
    (Q := fun c st' => Kept st st' ∧ ∃ r na nb out mg, c = (some r, na, nb, out, mg) ∧ Good (a.toList ++ b.toList) r.toList) ?step ?fin ⟨hk, _, _, _, _, rfl, M2, by omega⟩) ?post)
  case fin =>
    rintro c st' ⟨_, na, nb, out, mg, rfl, M, hx⟩
    omega
  case post =>
    rintro c st' ⟨hk', r, na, nb, out, mg, rfl, g⟩
    exact wpS_pure (q r st' g hk')
  case step =>
    rintro x c st1 _ hx ⟨hk1, na, nb, out, mg, rfl, M, hlt⟩
    dsimp only
    refine wpS_bind (wpS_mono (wpS_forRange
      (I := fun y c st' => st' = st1 ∧ ∃ na nb out ac bc, c = (none, na, nb, out, ac, bc) ∧ Hid a b out na nb ∧ x + y + (na + nb) < a.size + b.size)
      (Q := fun c st' => st' = st1 ∧ ((∃ r na nb out ac bc, c = (some r, na, nb, out, ac, bc) ∧ Good (a.toList ++ b.toList) r.toList) ∨ ∃ na nb out ac bc, c = (none, na, nb, out, ac, bc) ∧ Hid a b out na nb ∧ x + 1 + (na + nb) < a.size + b.size)) ?step1 ?fin1 ⟨rfl, _, _, _, _, _, rfl, M, by omega⟩) ?post1)
    case fin1 =>
      rintro c st' ⟨_, na, nb, out, ac, bc, rfl, M, hx⟩
      omega
    case step1 =>
      rintro y c st' _ hy ⟨rfl, na, nb, out, ac, bc, rfl, M, hlt⟩
      have ha := M.ha
      have hb := M.hb
      have h1 := M.na
      have h2 := M.nb
      obtain ⟨na, rfl⟩ : ∃ m, na = m + 1 := ⟨na - 1, by omega⟩
      obtain ⟨nb, rfl⟩ : ∃ m, nb = m + 1 := ⟨nb - 1, by omega⟩
      dsimp only
      simp only [Nat.add_sub_cancel]
      have hA' : na < a.size := by omega
      have hB' : nb < b.size := by omega
      refine wpS_bind (wp_elem (drop_at hB').1 (wpS_bind (wp_elem (drop_at hA').1 (wpS_bind (wp_lt hk1.1 (T.ib _ (mem_at hB')) (T.ia _ (mem_at hA')) ?_)))))
      dsimp only
      by_cases hw : kv b[nb] < kv a[na]
      · rw [if_pos (by simpa using hw)]
        refine wpS_bind (wp_elem (drop_at hA').1 ?_)
        have N := Hid.pushA hA' M.mh fun x hx => by have := last_ge hB' T.ub x hx; omega
        by_cases he : na = 0
        · rw [if_pos (by simpa using he)]
          exact wpS_pure ⟨rfl, .inl ⟨_, _, _, _, _, _, rfl, fin_doneH N (.inl he)⟩⟩
        · rw [if_neg (by simpa using he)]
          have N' : Hid a b (out.push a[na]) na (nb + 1) := ⟨N, by omega, hb, by omega, h2⟩
          refine wp_ite (fun _ => ?_) (fun _ => ?_)
          · exact wpS_pure ⟨rfl, .inr ⟨_, _, _, _, _, rfl, N', by omega⟩⟩
          · exact wpS_pure ⟨rfl, _, _, _, _, _, rfl, N', by omega⟩
      · rw [if_neg (by simpa using hw)]
        refine wpS_bind (wp_elem (drop_at hB').1 ?_)
        have N := Hid.pushB hB' M.mh fun x hx => by have := last_ge hA' T.ua x hx; omega
        by_cases he : nb = 1
        · rw [if_pos (by simpa using he)]
          exact wpS_pure ⟨rfl, .inl ⟨_, _, _, _, _, _, rfl, fin_firstH T N he⟩⟩
        · rw [if_neg (by simpa using he)]
          have N' : Hid a b (out.push b[nb]) (na + 1) nb := ⟨N, ha, by omega, h1, by omega⟩
          refine wp_ite (fun _ => ?_) (fun _ => ?_)
          · exact wpS_pure ⟨rfl, .inr ⟨_, _, _, _, _, rfl, N', by omega⟩⟩
          · exact wpS_pure ⟨rfl, _, _, _, _, _, rfl, N', by omega⟩
    case post1 =>
      rintro c st' ⟨rfl, ⟨r, na, nb, out, ac, bc, rfl, g⟩ | ⟨na, nb, out, ac, bc, rfl, M, hlt⟩⟩
      · exact wpS_pure ⟨hk1, r, na, nb, out, mg, rfl, g⟩
      dsimp only
      refine wpS_bind (wpS_lift (wpAny_rule ⟨rfl, ?_⟩))
      refine wpS_bind (wpS_mono (wpS_forRange
        (I := fun y c st' => Kept st st' ∧ ∃ na nb out mg ac bc, c = (none, na, nb, out, mg, ac, bc) ∧ Hid a b out na nb ∧ x + 1 + y + (na + nb) < a.size + b.size)
        (Q := fun c st' => Kept st st' ∧ ((∃ r na nb out mg ac bc, c = (some r, na, nb, out, mg, ac, bc) ∧ Good (a.toList ++ b.toList) r.toList) ∨ ∃ na nb out mg ac bc, c = (none, na, nb, out, mg, ac, bc) ∧ Hid a b out na nb ∧ x + 1 + (na + nb) < a.size + b.size)) ?step2 ?fin2 ⟨hk1, _, _, _, _, _, _, rfl, M, by omega⟩) ?post2)
      case fin2 =>
        rintro c st' ⟨_, na, nb, out, mg, ac, bc, rfl, M, hx⟩
        omega
      case post2 =>
        rintro c st' ⟨hk2, ⟨r, na, nb, out, mg, ac, bc, rfl, g⟩ | ⟨na, nb, out, mg, ac, bc, rfl, M, hlt⟩⟩
        · exact wpS_pure ⟨hk2, r, na, nb, out, mg, rfl, g⟩
        · dsimp only
          refine wpS_bind (wp_setMG hk2 fun st3 hk3 => ?_)
          exact wpS_pure ⟨hk3, _, _, _, _, rfl, M, by omega⟩
      case step2 =>
        rintro y c st2 _ hy ⟨hk2, na, nb, out, mg, ac, bc, rfl, M, hlt⟩
        have ha := M.ha
        have hb := M.hb
        have h1 := M.na
        have h2 := M.nb
        obtain ⟨nb, rfl⟩ : ∃ m, nb = m + 1 := ⟨nb - 1, by omega⟩
        dsimp only
        simp only [Nat.add_sub_cancel]
        have hB' : nb < b.size := by omega
        refine' (fun (hh : ∀ m2 : Nat, (_ : Nat → Prop) m2) => ?one) ?two
        case one =>
          by_cases hm : mg > 1
          · rw [if_pos hm]; generalize mg - 1 = m2; revert m2; exact hh
          · rw [if_neg hm]; generalize mg = m2; revert m2; exact hh
        case two =>
          intro mg
          refine wpS_bind (wp_setMG hk2 fun st3 hk3 => ?_)
          refine wpS_bind (wp_elem (drop_at hB').1 ?_)
          refine wpS_bind (wp_gal (galR T.ia T.ua (T.ib _ (mem_at hB')) ha) hk3.1 (show na - 1 < na by omega) fun i hin hlo hhi => ?_)
          dsimp only
          have fa : ∀ x ∈ (a.extract i na).toList, ∀ y ∈ b.toList.take (nb + 1), kv y ≤ kv x := fun x hx y hy => by
            obtain ⟨j, hj, hj2, hja, rfl⟩ := mem_ext hx
            have e := hhi j hj hj2
            simp only [Nat.zero_add] at e
            rw [dif_pos hja] at e
            have e' : kv b[nb] < kv a[j] := by simpa using e
            have := last_ge hB' T.ub y hy
            omega
          have fb : ∀ x ∈ a.toList.take i, kv x ≤ kv b[nb] := fun x hx => by
            obtain ⟨j, hj, hja, rfl⟩ := mem_take hx
            have e := hlo j hj
            simp only [Nat.zero_add] at e
            rw [dif_pos hja] at e
            have e' : ¬ kv b[nb] < kv a[j] := by simpa using e
            omega
          have N := Hid.leapA hin M.mh fa
          refine' (fun (hh : ∀ (i kk : Nat) (o2 : Array Keyed), (_ : Nat → Nat → Array Keyed → Prop) i kk o2) => ?one2) ?two2
          case one2 =>
            by_cases hk0 : na - i > 0
            · rw [if_pos hk0]
              by_cases he : i = 0
              · rw [if_pos (by simpa using he)]
                exact wpS_pure ⟨hk3, .inl ⟨_, _, _, _, _, _, _, rfl, fin_doneH N (.inl he)⟩⟩
              rw [if_neg (by simpa using he)]
              have P1 := N
              have P2 : 1 ≤ i := by omega
              have P3 := fb
              have P4 : x + 1 + y + (i + (nb + 1)) < a.size + b.size := by omega
              have P5 : i ≤ a.size := by omega
              generalize na - i = kk
              generalize out ++ (a.extract i na).reverse = o2 at P1 ⊢
              generalize i = i' at P1 P2 P3 P4 P5 ⊢
              revert P5; revert P4; revert P3; revert P2; revert P1
              exact hh i' kk o2
            · rw [if_neg hk0]
              obtain rfl : i = na := by omega
              have P1 := M.mh
              have P2 := h1
              have P3 := fb
              have P4 := hlt
              have P5 := ha
              generalize i - i = kk
              revert P5; revert P4; revert P3; revert P2; revert P1
              exact hh i kk out
          case two2 =>
            clear N fb fa hlo hhi hlt M hin h1 ha
            intro i kk o2 P1 P2 P3 P4 P5
            refine wpS_bind (wp_elem (drop_at hB').1 ?_)
            have N2 := Hid.pushB hB' P1 P3
            by_cases he : nb = 1
            · rw [if_pos (by simpa using he)]
              exact wpS_pure ⟨hk3, .inl ⟨_, _, _, _, _, _, _, rfl, fin_firstH T N2 he⟩⟩
            rw [if_neg (by simpa using he)]
            obtain ⟨i2, rfl⟩ : ∃ m, i = m + 1 := ⟨i - 1, by omega⟩
            simp only [Nat.add_sub_cancel]
            have hA' : i2 < a.size := by omega
            refine wpS_bind (wp_elem (drop_at hA').1 ?_)
            refine wpS_bind (wp_gal (galL T.ib T.ub (T.ia _ (mem_at hA')) (show nb ≤ b.size by omega)) hk3.1 (show nb - 1 < nb by omega) fun j2 hjn hlo2 hhi2 => ?_)
            dsimp only
            have ga : ∀ x ∈ (b.extract j2 nb).toList, ∀ y ∈ a.toList.take (i2 + 1), kv y ≤ kv x := fun x hx y hy => by
              obtain ⟨j, hj, hj2, hja, rfl⟩ := mem_ext hx
              have e := hhi2 j hj hj2
              simp only [Nat.zero_add] at e
              rw [dif_pos hja] at e
              have e' : ¬ kv b[j] < kv a[i2] := by simpa using e
              have := last_ge hA' T.ua y hy
              omega
            have gb : ∀ x ∈ b.toList.take j2, kv x ≤ kv a[i2] := fun x hx => by
              obtain ⟨j, hj, hja, rfl⟩ := mem_take hx
              have e := hlo2 j hj
              simp only [Nat.zero_add] at e
              rw [dif_pos hja] at e
              have e' : kv b[j] < kv a[i2] := by simpa using e
              omega
            have N3 := Hid.leapB hjn N2 ga
            refine' (fun (hh : ∀ (j2 kk2 : Nat) (o3 : Array Keyed), (_ : Nat → Nat → Array Keyed → Prop) j2 kk2 o3) => ?one3) ?two3
            case one3 =>
              by_cases hk20 : nb - j2 > 0
              · rw [if_pos hk20]
                by_cases he2 : j2 = 1
                · rw [if_pos (by simpa using he2)]
                  exact wpS_pure ⟨hk3, .inl ⟨_, _, _, _, _, _, _, rfl, fin_firstH T N3 he2⟩⟩
                rw [if_neg (by simpa using he2)]
                by_cases he3 : j2 = 0
                · rw [if_pos (by simpa using he3)]
                  exact wpS_pure ⟨hk3, .inl ⟨_, _, _, _, _, _, _, rfl, fin_doneH N3 (.inr he3)⟩⟩
                rw [if_neg (by simpa using he3)]
                have R1 := N3
                have R2 : 2 ≤ j2 := by omega
                have R3 := gb
                have R4 : x + 1 + y + 1 + (i2 + j2) < a.size + b.size := by omega
                have R5 : j2 ≤ b.size := by omega
                generalize nb - j2 = kk2
                generalize o2.push b[nb] ++ (b.extract j2 nb).reverse = o3 at R1 ⊢
                generalize j2 = j' at R1 R2 R3 R4 R5 ⊢
                revert R5; revert R4; revert R3; revert R2; revert R1
                exact hh j' kk2 o3
              · rw [if_neg hk20]
                obtain rfl : j2 = nb := by omega
                have R1 := N2
                have R2 : 2 ≤ j2 := by omega
                have R3 := gb
                have R4 : x + 1 + y + 1 + (i2 + j2) < a.size + b.size := by omega
                have R5 : j2 ≤ b.size := by omega
                generalize j2 - j2 = kk2
                generalize o2.push b[j2] = o3 at R1 ⊢
                revert R5; revert R4; revert R3; revert R2; revert R1
                exact hh j2 kk2 o3
            case two3 =>
              clear N3 gb ga hlo2 hhi2 N2 hjn
              intro j2 kk2 o3 R1 R2 R3 R4 R5
              refine wpS_bind (wp_elem (drop_at hA').1 ?_)
              have N4 := Hid.pushA hA' R1 R3
              by_cases he3 : i2 = 0
              · rw [if_pos (by simpa using he3)]
                exact wpS_pure ⟨hk3, .inl ⟨_, _, _, _, _, _, _, rfl, fin_doneH N4 (.inl he3)⟩⟩
              rw [if_neg (by simpa using he3)]
              have N5 : Hid a b (o3.push a[i2]) i2 j2 := ⟨N4, by omega, R5, by omega, R2⟩
              refine wp_ite (fun _ => ?_) (fun _ => ?_)
              · exact wpS_pure ⟨hk3, .inr ⟨_, _, _, _, _, _, rfl, N5, by omega⟩⟩
              · exact wpS_pure ⟨hk3, _, _, _, _, _, _, rfl, N5, by omega⟩
end
end Srt

set_option Elab.async false
set_option linter.all false
set_option maxRecDepth 100000
set_option maxHeartbeats 4000000
namespace Srt
open PySem PyProof.Rows
structure Bs (a₀ : Array Keyed) (p : Array (Nat × Nat × Nat)) (st : SortSt) : Prop where
  perm : (arrOf st).Perm a₀
  kind : kindOf st = oneType'
  failed : failedOf st = none
  pend : pendingOf st = p
theorem Bs.base {a₀ : Array Keyed} {p : Array (Nat × Nat × Nat)} {st : SortSt} (h : Bs a₀ p st) : SBase a₀ (setPending st #[]) := ⟨h.perm, h.kind, h.failed, rfl⟩
theorem Bs.size {a₀ : Array Keyed} {p : Array (Nat × Nat × Nat)} {st : SortSt} (h : Bs a₀ p st) : (arrOf st).size = a₀.size := h.perm.size_eq
theorem Bs.arr {a₀ : Array Keyed} {p : Array (Nat × Nat × Nat)} {st : SortSt} (h : Bs a₀ p st) {xs : Array Keyed} (hp : xs.Perm (arrOf st)) : Bs a₀ p (setArr st xs) := ⟨hp.trans h.perm, h.kind, h.failed, h.pend⟩
def Seg (xs : Array Keyed) (lo hi : Nat) : Prop := ∀ i j, lo ≤ i → i ≤ j → j < hi → K xs i ≤ K xs j
def Fal (xs : Array Keyed) (lo hi : Nat) : Prop := ∀ i j, lo ≤ i → i ≤ j → j < hi → K xs j ≤ K xs i
def Low (lo : Nat) (xs ys : Array Keyed) : Prop := ∀ k, k < lo → K ys k = K xs k
section
variable {prog : Program} {w : World} {A : Around} {E : Value → Shared → Prop} {s : Shared} {a₀ : Array Keyed} {p : Array (Nat × Nat × Nat)}
theorem wp_ltK {st : SortSt} {i j : Nat} {Q : Option Bool → SortSt → Prop} (hB : Bs a₀ p st) (h0 : IntKeys a₀) (hi : i < a₀.size) (hj : j < a₀.size)
    (q : Q (some (decide (K (arrOf st) i < K (arrOf st) j))) st) : wpS (model prog w) A E s (ltAt' i j) Q st := by
  obtain ⟨t, x, e1⟩ := hB.base.at h0 hi
  obtain ⟨u, y, e2⟩ := hB.base.at h0 hj
  exact wpS_ltAt hB.kind e1 e2 q
theorem seg_more {xs : Array Keyed} {lo x : Nat} (h : Seg xs lo (lo + x)) (h1 : 1 ≤ x) (hn : ¬ K xs (lo + x) < K xs (lo + x - 1)) : Seg xs lo (lo + (x + 1)) := fun i j a b c => by
  by_cases z : j < lo + x
  · exact h i j a b z
  · obtain rfl : j = lo + x := by omega
    by_cases y : i = lo + x
    · rw [y]; exact Int.le_refl _
    · have := h i (lo + x - 1) a (by omega) (by omega)
      omega
theorem fal_more {xs : Array Keyed} {lo x : Nat} (h : Fal xs lo (lo + x)) (h1 : 1 ≤ x) (hn : K xs (lo + x) ≤ K xs (lo + x - 1)) : Fal xs lo (lo + (x + 1)) := fun i j a b c => by
  by_cases z : j < lo + x
  · exact h i j a b z
  · obtain rfl : j = lo + x := by omega
    by_cases y : i = lo + x
    · rw [y]; exact Int.le_refl _
    · have := h i (lo + x - 1) a (by omega) (by omega)
      omega
theorem fal_turn {xs : Array Keyed} {lo n : Nat} (hs : lo + n ≤ xs.size) (h : Fal xs lo (lo + n)) : Seg (mirror xs lo (lo + n) ((lo + n - lo) / 2)) lo (lo + n) := fun i j a b c => by
  rw [K_mirror hs, K_mirror hs, if_pos (by omega), if_pos (by omega)]
  exact h _ _ (by omega) (by omega) (by omega)
theorem low_turn {xs : Array Keyed} {lo i j : Nat} (hs : j ≤ xs.size) (h : lo ≤ i) : Low lo xs (mirror xs i j ((j - i) / 2)) := fun k hk => by
  rw [K_mirror hs, if_neg (by omega)]
theorem Low.trans {lo : Nat} {xs ys zs : Array Keyed} (h : Low lo xs ys) (g : Low lo ys zs) : Low lo xs zs := fun k hk => (g k hk).trans (h k hk)
theorem wp_count {st : SortSt} {lo nrem : Nat} {Q : Option Nat → SortSt → Prop} (h0 : IntKeys a₀) (hn : lo + nrem ≤ a₀.size) (h1 : 1 ≤ nrem) (hB : Bs a₀ p st)
    (h : ∀ m st', Bs a₀ p st' → Low lo (arrOf st) (arrOf st') → 1 ≤ m → m ≤ nrem → Seg (arrOf st') lo (lo + m) → Q (some m) st') :
    wpS (model prog w) A E s (countRun' lo nrem) Q st := by
  rw [countRun'_eq]
  refine wpS_bind (wpS_mono (wpS_forRange (I := fun x c st' => st' = st ∧ c = (none, x) ∧ Seg (arrOf st) lo (lo + x))
    (Q := fun c st' => st' = st ∧ ∃ m, c = (none, m) ∧ 1 ≤ m ∧ m ≤ nrem ∧ Seg (arrOf st) lo (lo + m) ∧ (m = nrem ∨ K (arrOf st) (lo + m) < K (arrOf st) (lo + m - 1))) ?s1 ?f1 ⟨rfl, rfl, fun i j a b c => ?o1⟩) ?p1)
  case o1 =>
    obtain rfl : i = j := by omega
    exact Int.le_refl _
  case f1 =>
    rintro c st' ⟨rfl, rfl, hs⟩
    rw [show max 1 nrem = nrem by omega] at hs ⊢
    exact ⟨rfl, nrem, rfl, h1, Nat.le_refl _, hs, .inl rfl⟩
  case s1 =>
    rintro x c st' hx1 hx ⟨rfl, rfl, hs⟩
    dsimp only
    refine wpS_bind (wp_ltK hB h0 (by omega) (by omega) ?_)
    dsimp only
    refine wp_ite (fun c => ?_) (fun c => ?_)
    · have c' := of_decide_eq_true c
      exact wpS_pure ⟨rfl, x, rfl, hx1, by omega, hs, .inr c'⟩
    · have c' := fun z => c (decide_eq_true z)
      exact wpS_pure ⟨rfl, rfl, seg_more hs hx1 c'⟩
  case p1 =>
    rintro c st' ⟨hst, m, rfl, hm1, hm2, hs, hor⟩
    subst st'
    have hsz : (arrOf st).size = a₀.size := hB.size
    dsimp only
    by_cases hm : m = nrem
    · rw [if_pos (by simpa using hm)]
      exact wpS_pure (h m st hB (fun _ _ => rfl) hm1 hm2 hs)
    rw [if_neg (by simpa using hm)]
    have hlt : K (arrOf st) (lo + m) < K (arrOf st) (lo + m - 1) := hor.resolve_left hm
    by_cases hgt : m > 1
    case' pos =>
      rw [if_pos hgt]
      refine wpS_bind (wp_ltK hB h0 (by omega) (by omega) ?_)
      dsimp only
      by_cases hrose : K (arrOf st) lo < K (arrOf st) (lo + m - 1)
      · rw [if_pos (by simpa using hrose)]
        exact wpS_pure (h m st hB (fun _ _ => rfl) hm1 hm2 hs)
      rw [if_neg (by simpa using hrose)]
      have hall : ∀ k, lo ≤ k → k < lo + m → K (arrOf st) k = K (arrOf st) (lo + m - 1) := fun k k1 k2 => by
        have a1 := hs lo k (Nat.le_refl _) k1 k2
        have a2 := hs k (lo + m - 1) k1 (by omega) (by omega)
        omega
      refine wpS_bind (wpS_reverse ?_)
      have B2 : Bs a₀ p (setArr st (mirror (arrOf st) lo (lo + m) ((lo + m - lo) / 2))) := hB.arr (mirror_perm _ _ _ _)
      have L2 : Low lo (arrOf st) (arrOf (setArr st (mirror (arrOf st) lo (lo + m) ((lo + m - lo) / 2)))) := low_turn (by omega) (Nat.le_refl _)
      have F2 : Fal (arrOf (setArr st (mirror (arrOf st) lo (lo + m) ((lo + m - lo) / 2)))) lo (lo + (m + 1)) := fun i j a b c => by
        show K (mirror (arrOf st) lo (lo + m) ((lo + m - lo) / 2)) j ≤ K (mirror (arrOf st) lo (lo + m) ((lo + m - lo) / 2)) i
        rw [K_mirror_equal (by omega) hall, K_mirror_equal (by omega) hall]
        by_cases hj : j < lo + m
        · rw [hall i (by omega) (by omega), hall j (by omega) hj]; exact Int.le_refl _
        · obtain rfl : j = lo + m := by omega
          by_cases hi : i = lo + m
          · rw [hi]; exact Int.le_refl _
          · rw [hall i (by omega) (by omega)]; omega
      generalize setArr st (mirror (arrOf st) lo (lo + m) ((lo + m - lo) / 2)) = st2 at B2 L2 F2 ⊢
      clear hall hrose
    case' neg =>
      rw [if_neg hgt]
      obtain rfl : m = 1 := by omega
      have B2 := hB
      have L2 : Low lo (arrOf st) (arrOf st) := fun _ _ => rfl
      have F2 : Fal (arrOf st) lo (lo + (1 + 1)) := fun i j a b c => by
        by_cases hi : i = j
        · rw [hi]; exact Int.le_refl _
        · obtain rfl : i = lo := by omega
          obtain rfl : j = i + 1 := by omega
          rw [show i + 1 - 1 = i by omega] at hlt
          omega
      generalize hst2 : st = st2 at B2 F2 ⊢
      have L2 : Low lo (arrOf st) (arrOf st2) := by rw [← hst2]; exact L2
      clear hst2
    all_goals
      refine wpS_bind (wpS_lift (wpAny_rule ⟨rfl, ?_⟩))
      refine wpS_bind (wpS_mono (wpS_forRange (I := fun x c st' => ∃ neq, c = (none, x, neq) ∧ Bs a₀ p st' ∧ Low lo (arrOf st) (arrOf st') ∧ Fal (arrOf st') lo (lo + x) ∧ neq + 1 ≤ x ∧ ∀ i, lo + x - (neq + 1) ≤ i → i < lo + x → K (arrOf st') i = K (arrOf st') (lo + x - 1))
        (Q := fun c st' => ∃ x neq, c = (none, x, neq) ∧ 1 ≤ x ∧ x ≤ nrem ∧ Bs a₀ p st' ∧ Low lo (arrOf st) (arrOf st') ∧ Fal (arrOf st') lo (lo + x) ∧ neq + 1 ≤ x ∧ ∀ i, lo + x - (neq + 1) ≤ i → i < lo + x → K (arrOf st') i = K (arrOf st') (lo + x - 1)) ?s2 ?f2 ⟨0, rfl, B2, L2, F2, by omega, fun i a b => by congr 1; omega⟩) ?p2)
      case f2 =>
        rintro c st' ⟨neq, rfl, b1, b2, b3, b4, b5⟩
        rw [Nat.max_eq_right (by omega)] at b3 b4 b5 ⊢
        exact ⟨_, neq, rfl, by omega, Nat.le_refl _, b1, b2, b3, b4, b5⟩
      case s2 =>
        rintro x c st' hx1 hx ⟨neq, rfl, b1, b2, b3, b4, b5⟩
        have hsz' : (arrOf st').size = a₀.size := b1.size
        dsimp only
        refine wpS_bind (wp_ltK b1 h0 (by omega) (by omega) ?_)
        dsimp only
        refine wp_ite (fun c => ?_) (fun c => ?_)
        · have c' := of_decide_eq_true c
          refine wp_ite (fun c2 => ?_) (fun c2 => ?_)
          · refine wpS_bind (wpS_reverse (wpS_pure ⟨0, rfl, b1.arr (mirror_perm _ _ _ _), b2.trans (low_turn (by omega) (by omega)), ?_, by omega, fun i a b => by congr 1; omega⟩))
            show Fal (mirror (arrOf st') (lo + x - (neq + 1)) (lo + x) ((lo + x - (lo + x - (neq + 1))) / 2)) lo (lo + (x + 1))
            intro i j a b d
            rw [K_mirror_equal (by omega) b5, K_mirror_equal (by omega) b5]
            exact fal_more b3 (by omega) (by omega) i j a b d
          · exact wpS_pure ⟨0, rfl, b1, b2, fal_more b3 (by omega) (by omega), by omega, fun i a b => by congr 1; omega⟩
        · have c' : ¬ K (arrOf st') (lo + x) < K (arrOf st') (lo + x - 1) := fun z => c (decide_eq_true z)
          refine wpS_bind (wp_ltK b1 h0 (by omega) (by omega) ?_)
          dsimp only
          refine wp_ite (fun c2 => ?_) (fun c2 => ?_)
          · exact wpS_pure ⟨x, neq, rfl, by omega, by omega, b1, b2, b3, b4, b5⟩
          · have c2' : ¬ K (arrOf st') (lo + x - 1) < K (arrOf st') (lo + x) := fun z => c2 (decide_eq_true z)
            have e : K (arrOf st') (lo + x) = K (arrOf st') (lo + x - 1) := by omega
            refine wpS_pure ⟨neq + 1, rfl, b1, b2, fal_more b3 (by omega) (by omega), by omega, fun i a b => ?_⟩
            rw [show lo + (x + 1) - 1 = lo + x by omega]
            by_cases hi : i = lo + x
            · rw [hi]
            · rw [e]; exact b5 i (by omega) (by omega)
      case p2 =>
        rintro c st' ⟨x, neq, rfl, b0, b00, b1, b2, b3, b4, b5⟩
        have hsz' : (arrOf st').size = a₀.size := b1.size
        dsimp only
        by_cases hq : neq > 0
        case' pos =>
          rw [if_pos hq]
          refine wpS_bind (wpS_reverse ?_)
          have D1 : Bs a₀ p (setArr st' (mirror (arrOf st') (lo + x - (neq + 1)) (lo + x) ((lo + x - (lo + x - (neq + 1))) / 2))) := b1.arr (mirror_perm _ _ _ _)
          have D2 : Low lo (arrOf st) (arrOf (setArr st' (mirror (arrOf st') (lo + x - (neq + 1)) (lo + x) ((lo + x - (lo + x - (neq + 1))) / 2)))) := b2.trans (low_turn (by omega) (by omega))
          have D3 : Fal (arrOf (setArr st' (mirror (arrOf st') (lo + x - (neq + 1)) (lo + x) ((lo + x - (lo + x - (neq + 1))) / 2)))) lo (lo + x) := fun i j a b d => by
            show K (mirror (arrOf st') (lo + x - (neq + 1)) (lo + x) ((lo + x - (lo + x - (neq + 1))) / 2)) j ≤ K (mirror (arrOf st') (lo + x - (neq + 1)) (lo + x) ((lo + x - (lo + x - (neq + 1))) / 2)) i
            rw [K_mirror_equal (by omega) b5, K_mirror_equal (by omega) b5]
            exact b3 i j a b d
          generalize setArr st' (mirror (arrOf st') (lo + x - (neq + 1)) (lo + x) ((lo + x - (lo + x - (neq + 1))) / 2)) = st3 at D1 D2 D3 ⊢
        case' neg =>
          rw [if_neg hq]
          have D1 := b1
          have D2 := b2
          have D3 := b3
          generalize st' = st3 at D1 D2 D3 ⊢
        all_goals
          have hs3 : (arrOf st3).size = a₀.size := D1.size
          refine wpS_bind (wpS_reverse ?_)
          have G1 : Bs a₀ p (setArr st3 (mirror (arrOf st3) lo (lo + x) ((lo + x - lo) / 2))) := D1.arr (mirror_perm _ _ _ _)
          have G2 : Low lo (arrOf st) (arrOf (setArr st3 (mirror (arrOf st3) lo (lo + x) ((lo + x - lo) / 2)))) := D2.trans (low_turn (by omega) (Nat.le_refl _))
          have G3 : Seg (arrOf (setArr st3 (mirror (arrOf st3) lo (lo + x) ((lo + x - lo) / 2)))) lo (lo + x) := fal_turn (by omega) D3
          generalize setArr st3 (mirror (arrOf st3) lo (lo + x) ((lo + x - lo) / 2)) = st4 at G1 G2 G3 ⊢
          refine wpS_bind (wpS_mono (wpS_forRange (I := fun x c st' => st' = st4 ∧ c = (none, x) ∧ Seg (arrOf st4) lo (lo + x))
            (Q := fun c st' => st' = st4 ∧ ∃ m, c = (none, m) ∧ 1 ≤ m ∧ m ≤ nrem ∧ Seg (arrOf st4) lo (lo + m)) ?s3 ?f3 ⟨rfl, rfl, G3⟩) ?p3)
          case f3 =>
            rintro c st5 ⟨rfl, rfl, hs⟩
            rw [Nat.max_eq_right b00] at hs ⊢
            exact ⟨rfl, nrem, rfl, h1, Nat.le_refl _, hs⟩
          case s3 =>
            rintro y c st5 hy1 hy ⟨rfl, rfl, hs⟩
            dsimp only
            refine wpS_bind (wp_ltK G1 h0 (by omega) (by omega) ?_)
            dsimp only
            refine wp_ite (fun c => ?_) (fun c => ?_)
            · exact wpS_pure ⟨rfl, y, rfl, by omega, by omega, hs⟩
            · have c' := fun z => c (decide_eq_true z)
              exact wpS_pure ⟨rfl, rfl, seg_more hs (by omega) c'⟩
          case p3 =>
            rintro c st5 ⟨rfl, m3, rfl, d1, d2, d3⟩
            exact wpS_pure (h m3 _ G1 G2 d1 d2 d3)
theorem wp_bins {st : SortSt} {lo n ok : Nat} {Q : Bool → SortSt → Prop} (h0 : IntKeys a₀) (hn : lo + n ≤ a₀.size) (hok : ok ≤ n) (hB : Bs a₀ p st) (hs : Seg (arrOf st) lo (lo + ok))
    (h : ∀ st', Bs a₀ p st' → Low lo (arrOf st) (arrOf st') → Seg (arrOf st') lo (lo + n) → Q true st') : wpS (model prog w) A E s (binarySort' lo n ok) Q st := by
  rw [binarySort'_eq]
  refine wpS_bind (wpS_mono (wpS_forRange (I := fun k c st' => c = (none, ()) ∧ Bs a₀ p st' ∧ Low lo (arrOf st) (arrOf st') ∧ Seg (arrOf st') lo (lo + min k n))
    (Q := fun c st' => c = (none, ()) ∧ Bs a₀ p st' ∧ Low lo (arrOf st) (arrOf st') ∧ Seg (arrOf st') lo (lo + n)) ?s1 ?f1 ⟨rfl, hB, fun _ _ => rfl, fun i j a b c => ?o1⟩) ?p1)
  case o1 =>
    by_cases z : ok = 0
    · obtain rfl : i = j := by omega
      exact Int.le_refl _
    · exact hs i j a b (by omega)
  case p1 =>
    rintro c st' ⟨rfl, b1, b2, b3⟩
    exact wpS_pure (h st' b1 b2 b3)
  case f1 =>
    rintro c st' ⟨hc, b1, b2, b3⟩
    rw [show min (max (max ok 1) n) n = n by omega] at b3
    exact ⟨hc, b1, b2, b3⟩
  case s1 =>
    rintro k c st' hk1 hkn ⟨rfl, b1, b2, b3⟩
    rw [show min k n = k by omega] at b3
    have hz : (arrOf st').size = a₀.size := b1.size
    refine wpS_bind (wpS_mono (wpS_forRange (I := fun x c st'' => st'' = st' ∧ ∃ l r, c = (none, l, r) ∧ l ≤ r ∧ r ≤ k ∧ r - l ≤ k - x ∧ (∀ i, i < l → K (arrOf st') (lo + i) ≤ K (arrOf st') (lo + k)) ∧ (∀ i, r ≤ i → i < k → K (arrOf st') (lo + k) < K (arrOf st') (lo + i)))
      (Q := fun c st'' => st'' = st' ∧ ∃ l r, c = (none, l, r) ∧ l ≤ k ∧ (∀ i, i < l → K (arrOf st') (lo + i) ≤ K (arrOf st') (lo + k)) ∧ (∀ i, l ≤ i → i < k → K (arrOf st') (lo + k) < K (arrOf st') (lo + i))) ?s2 ?f2 ⟨rfl, 0, k, rfl, by omega, by omega, by omega, fun i hi => by omega, fun i a b => by omega⟩) ?p2)
    case f2 =>
      rintro c st'' ⟨rfl, l, r, rfl, d1, d2, d3, d4, d5⟩
      obtain rfl : l = r := by omega
      exact ⟨rfl, l, l, rfl, d2, d4, d5⟩
    case s2 =>
      rintro x c st'' _ hx ⟨rfl, l, r, rfl, d1, d2, d3, d4, d5⟩
      dsimp only
      refine wp_ite (fun c => ?_) (fun c => ?_)
      · obtain rfl : l = r := by omega
        exact wpS_pure ⟨rfl, l, l, rfl, d2, d4, d5⟩
      · refine wpS_bind (wp_ltK b1 h0 (by omega) (by omega) ?_)
        dsimp only
        refine wp_ite (fun c2 => ?_) (fun c2 => ?_)
        · have c2' := of_decide_eq_true c2
          refine wpS_pure ⟨rfl, l, (l + r) / 2, rfl, by omega, by omega, by omega, d4, fun i a b => ?_⟩
          exact Int.lt_of_lt_of_le c2' (b3 _ _ (by omega) (by omega) (by omega))
        · have c2' : ¬ K (arrOf st'') (lo + k) < K (arrOf st'') (lo + (l + r) / 2) := fun z => c2 (decide_eq_true z)
          refine wpS_pure ⟨rfl, (l + r) / 2 + 1, r, rfl, by omega, by omega, by omega, fun i a => ?_, d5⟩
          have := b3 (lo + i) (lo + (l + r) / 2) (by omega) (by omega) (by omega)
          omega
    case p2 =>
      rintro c st'' ⟨rfl, l, r, rfl, d2, d4, d5⟩
      show wpS _ _ _ _ (do moveDown' (lo + k) (lo + l); pure (ForInStep.yield (none, ()))) _ _
      rw [moveDown'_eq]
      refine wpS_bind (wpS_modify (wpS_pure ⟨rfl, b1.arr (bubble_perm _ _ _), b2.trans fun i hi => ?_, ?_⟩))
      · show K (bubble (arrOf st'') (lo + k) (lo + k - (lo + l))) i = _
        rw [K_bubble (by omega) (by omega), if_neg (by omega), if_neg (by omega)]
      · rw [show min (k + 1) n = k + 1 by omega]
        intro i j a b e
        show K (bubble (arrOf st'') (lo + k) (lo + k - (lo + l))) i ≤ K (bubble (arrOf st'') (lo + k) (lo + k - (lo + l))) j
        rw [K_bubble (by omega) (by omega), K_bubble (by omega) (by omega), show lo + k - (lo + k - (lo + l)) = lo + l by omega]
        have low : ∀ u, lo ≤ u → u < lo + l → K (arrOf st'') u ≤ K (arrOf st'') (lo + k) := fun u u1 u2 => by
          have := d4 (u - lo) (by omega)
          rw [show lo + (u - lo) = u by omega] at this
          exact this
        have hig : ∀ u, lo + l ≤ u → u < lo + k → K (arrOf st'') (lo + k) ≤ K (arrOf st'') u := fun u u1 u2 => by
          have := d5 (u - lo) (by omega) (by omega)
          rw [show lo + (u - lo) = u by omega] at this
          omega
        repeat' split
        all_goals first
          | (exfalso; omega)
          | exact Int.le_refl _
          | exact low _ (by omega) (by omega)
          | exact hig _ (by omega) (by omega)
          | exact b3 _ _ (by omega) (by omega) (by omega)
end
end Srt

set_option Elab.async false
set_option linter.all false
set_option maxRecDepth 100000
set_option maxHeartbeats 4000000
namespace Srt
open PySem PyProof.Rows
theorem K_at {xs : Array Keyed} {i : Nat} (h : i < xs.size) : K xs i = kv xs[i] := by
  unfold K
  rw [getElem?_pos xs i h]
theorem put_list (sa : Nat) : ∀ (l : List Keyed) (n : Nat) (xs : Array Keyed), sa + n + l.length ≤ xs.size →
    ((l.zipIdx n).foldl (fun (a : Array Keyed) (q : Keyed × Nat) => a.setIfInBounds (sa + q.2) q.1) xs).toList = xs.toList.take (sa + n) ++ l ++ xs.toList.drop (sa + n + l.length)
  | [], n, xs, h => by
    show xs.toList = _
    rw [List.append_nil, List.length_nil, Nat.add_zero, List.take_append_drop]
  | x :: l, n, xs, h => by
    rw [List.length_cons] at h
    rw [List.zipIdx_cons, List.foldl_cons, put_list sa l (n + 1) _ (by rw [Array.size_setIfInBounds]; omega)]
    have hn : sa + n < xs.toList.length := by rw [Array.length_toList]; omega
    have e : (xs.setIfInBounds (sa + n) x).toList = xs.toList.set (sa + n) x := Array.toList_setIfInBounds ..
    rw [e, List.length_cons]
    have t : (xs.toList.set (sa + n) x).take (sa + (n + 1)) = xs.toList.take (sa + n) ++ [x] := by
      rw [show sa + (n + 1) = sa + n + 1 by omega, List.take_succ_eq_append_getElem (by rw [List.length_set]; exact hn), List.getElem_set_self, List.take_set_of_le (Nat.le_refl _)]
    have d : (xs.toList.set (sa + n) x).drop (sa + (n + 1) + l.length) = xs.toList.drop (sa + n + (l.length + 1)) := by
      rw [List.drop_set_of_lt (by omega)]
      congr 1
      omega
    rw [t, d, List.append_assoc _ [x] l]
    rfl
theorem mAt_eq (i : Nat) : mergeAt' i = (do
  let s ← get
  let (some (sa, na, power), some (sb, nb, _)) := ((pendingOf s)[i]?, (pendingOf s)[i + 1]?) | unsupported "internal:list.sort.pending"
  set (setPending s (((pendingOf s).setIfInBounds i (sa, na + nb, power)).eraseIdxIfInBounds (i + 1)))
  let some k ← gal false (← elem' (arrOf s) sb) (arrOf s) sa na 0 | return false
  let (sa, na) := (sa + k, na - k)
  if na == 0 then return true
  let some nb ← gal true (← elem' (arrOf s) (sa + na - 1)) (arrOf s) sb nb (nb - 1) | return false
  if nb == 0 then return true
  let x := (arrOf s).extract sa sb
  let y := (arrOf s).extract sb (sb + nb)
  let merged ← if na ≤ nb then mlo x y else mhi x y
  modify fun s => setArr s (merged.toList.zipIdx.foldl (fun a (p, j) => a.setIfInBounds (sa + j) p) (arrOf s))
  return (failedOf (← get)).isNone) := rfl
section
variable {prog : Program} {w : World} {A : Around} {E : Value → Shared → Prop} {s : Shared} {a₀ : Array Keyed}
theorem wp_set {σ : Type} {st st' : σ} {Q : PUnit → σ → Prop} (h : Q ⟨⟩ st') : wpS (model prog w) A E s (set st' : StateT σ Sem PUnit) Q st := by
  unfold wpS
  rw [StateT.run_set]
  exact wpAny_pure ⟨rfl, h⟩
theorem ints_of {xs : Array Keyed} (h0 : IntKeys a₀) (hp : xs.Perm a₀) : ∀ x ∈ xs.toList, IntK x := fun x hx => h0 x ((Array.perm_iff_toList_perm.mp hp).mem_iff.mp hx)
theorem segR {xs : Array Keyed} {key : Keyed} {b n : Nat} (hi : ∀ x ∈ xs.toList, IntK x) (u : Seg xs b (b + n)) (hk : IntK key) (h : b + n ≤ xs.size) : Gal false key xs b n (fun i => if h : b + i < xs.size then !decide (kv key < kv xs[b + i]) else false) := by
  refine ⟨hk, fun i hi' => ⟨xs[b + i], getElem?_pos xs (b + i) (by omega), hi _ (mem_at (by omega)), ?_⟩, fun i j hij hj e => ?_⟩
  · show (if h : b + i < xs.size then !decide (kv key < kv xs[b + i]) else false) = _
    rw [dif_pos (by omega)]
    rfl
  · rw [dif_pos (show b + j < xs.size by omega)] at e
    show (if h : b + i < xs.size then !decide (kv key < kv xs[b + i]) else false) = true
    rw [dif_pos (show b + i < xs.size by omega)]
    have m := u (b + i) (b + j) (by omega) (by omega) (by omega)
    rw [K_at (show b + i < xs.size by omega), K_at (show b + j < xs.size by omega)] at m
    have e' : ¬ kv key < kv xs[b + j] := by simpa using e
    have : ¬ kv key < kv xs[b + i] := by omega
    simpa using this
theorem segL {xs : Array Keyed} {key : Keyed} {b n : Nat} (hi : ∀ x ∈ xs.toList, IntK x) (u : Seg xs b (b + n)) (hk : IntK key) (h : b + n ≤ xs.size) : Gal true key xs b n (fun i => if h : b + i < xs.size then decide (kv xs[b + i] < kv key) else false) := by
  refine ⟨hk, fun i hi' => ⟨xs[b + i], getElem?_pos xs (b + i) (by omega), hi _ (mem_at (by omega)), ?_⟩, fun i j hij hj e => ?_⟩
  · show (if h : b + i < xs.size then decide (kv xs[b + i] < kv key) else false) = _
    rw [dif_pos (by omega)]
    rfl
  · rw [dif_pos (show b + j < xs.size by omega)] at e
    show (if h : b + i < xs.size then decide (kv xs[b + i] < kv key) else false) = true
    rw [dif_pos (show b + i < xs.size by omega)]
    have m := u (b + i) (b + j) (by omega) (by omega) (by omega)
    rw [K_at (show b + i < xs.size by omega), K_at (show b + j < xs.size by omega)] at m
    have e' : kv xs[b + j] < kv key := by simpa using e
    have : kv xs[b + i] < kv key := by omega
    simpa using this
theorem up_ext {xs : Array Keyed} {i n : Nat} (hn : n ≤ xs.size) (h : Seg xs i n) : Up (xs.extract i n).toList := by
  refine List.pairwise_iff_getElem.mpr fun u v hu hv huv => ?_
  have hl : (xs.extract i n).toList.length = n - i := by rw [ext_list, List.length_take, List.length_drop, Array.length_toList]; omega
  rw [hl] at hu hv
  have g : ∀ z (hz : z < (xs.extract i n).toList.length), (xs.extract i n).toList[z] = xs[i + z]'(by rw [hl] at hz; omega) := fun z hz => by
    simp only [ext_list, List.getElem_take, List.getElem_drop]
    rfl
  rw [g, g]
  have m := h (i + u) (i + v) (by omega) (by omega) (by omega)
  rw [K_at (by omega), K_at (by omega)] at m
  exact m
theorem up_sorted {xs : Array Keyed} (h : Up xs.toList) : SortedTo xs xs.size := fun i j hij hj => by
  rw [K_at (by omega), K_at hj]
  exact up_at h hij hj
theorem wp_mAt {st : SortSt} {n1 n2 pw : Nat} {Q : Bool → SortSt → Prop} (h0 : IntKeys a₀) (hB : Bs a₀ #[(0, n1, pw), (n1, n2, 0)] st) (hn : n1 + n2 = a₀.size) (p1 : 1 ≤ n1) (p2 : 1 ≤ n2)
    (S1 : Seg (arrOf st) 0 n1) (S2 : Seg (arrOf st) n1 (n1 + n2)) (q : ∀ st', (arrOf st').Perm a₀ → failedOf st' = none → pendingOf st' = #[(0, n1 + n2, pw)] → SortedTo (arrOf st') a₀.size → Q true st') :
    wpS (model prog w) A E s (mergeAt' 0) Q st := by
  rw [mAt_eq]
  have hz : (arrOf st).size = n1 + n2 := by rw [hB.size, hn]
  have hI := ints_of h0 hB.perm
  refine wpS_bind (wpS_get ?_)
  rw [hB.pend]
  dsimp only
  have e0 : (#[(0, n1, pw), (n1, n2, 0)] : Array (Nat × Nat × Nat))[0]? = some (0, n1, pw) := rfl
  have e1 : (#[(0, n1, pw), (n1, n2, 0)] : Array (Nat × Nat × Nat))[0 + 1]? = some (n1, n2, 0) := rfl
  rw [e0, e1]
  dsimp only
  refine wpS_bind (wp_set ?_)
  have e2 : ((#[(0, n1, pw), (n1, n2, 0)] : Array (Nat × Nat × Nat)).setIfInBounds 0 (0, n1 + n2, pw)).eraseIdxIfInBounds (0 + 1) = #[(0, n1 + n2, pw)] := by
    apply Array.toList_inj.mp
    simp
  rw [e2]
  obtain ⟨xs, hxs⟩ : ∃ xs, xs = arrOf st := ⟨_, rfl⟩
  have hpx : xs.Perm a₀ := by rw [hxs]; exact hB.perm
  have K1 : Kept (setPending st #[(0, n1 + n2, pw)]) (setPending st #[(0, n1 + n2, pw)]) := ⟨hB.kind, rfl, rfl, hB.failed⟩
  have K1a : arrOf (setPending st #[(0, n1 + n2, pw)]) = xs := by rw [hxs]
  have K1p : pendingOf (setPending st #[(0, n1 + n2, pw)]) = #[(0, n1 + n2, pw)] := rfl
  rw [← hxs] at S1 S2 hz hI ⊢
  generalize setPending st #[(0, n1 + n2, pw)] = st1 at K1 K1a K1p ⊢
  have b0 : n1 < xs.size := by omega
  have c0 : n1 - 1 < xs.size := by omega
  have sa : ∀ i j (hi : i ≤ j) (hj : j < n1), kv (xs[i]'(by omega)) ≤ kv (xs[j]'(by omega)) := fun i j hi hj => by
    have m := S1 i j (Nat.zero_le _) hi hj
    rw [K_at (by omega), K_at (by omega)] at m
    exact m
  have sb : ∀ i j (h1 : n1 ≤ i) (hi : i ≤ j) (hj : j < xs.size), kv (xs[i]'(by omega)) ≤ kv xs[j] := fun i j h1 hi hj => by
    have m := S2 i j h1 hi (by omega)
    rw [K_at (by omega), K_at (by omega)] at m
    exact m
  -- a state whose list is rising
  have fin : ∀ st' : SortSt, failedOf st' = none → pendingOf st' = pendingOf st1 → (arrOf st').Perm a₀ → Up (arrOf st').toList → Q true st' := fun st' k1 k1' k2 k3 => by
    have := up_sorted k3
    rw [k2.size_eq] at this
    exact q st' k2 k1 (by rw [k1', K1p]) this
  have whole : (∀ i (hi : i < n1), kv (xs[i]'(by omega)) ≤ kv xs[n1]) → Up xs.toList := fun h => by
    refine List.pairwise_iff_getElem.mpr fun i j hi hj hij => ?_
    rw [Array.length_toList] at hi hj
    show kv xs[i] ≤ kv xs[j]
    by_cases z1 : j < n1
    · exact sa i j (by omega) z1
    · by_cases z2 : i < n1
      · exact Int.le_trans (h i z2) (sb n1 j (Nat.le_refl _) (by omega) hj)
      · exact sb i j (by omega) (by omega) hj
  refine wpS_bind (wp_elem (drop_at b0).1 ?_)
  refine wpS_bind (wp_gal (segR (b := 0) (n := n1) hI (by rw [Nat.zero_add]; exact S1) (hI _ (mem_at b0)) (by omega)) K1.1 (show 0 < n1 by omega) fun k hk hlo hhi => ?_)
  dsimp only
  have A1 : ∀ j (hj : j < k), kv (xs[j]'(by omega)) ≤ kv xs[n1] := fun j hj => by
    have e := hlo j hj
    simp only [Nat.zero_add] at e
    rw [dif_pos (show j < xs.size by omega)] at e
    have e' : ¬ kv xs[n1] < kv (xs[j]'(by omega)) := by simpa using e
    omega
  have A2 : ∀ j (h1 : k ≤ j) (hj : j < n1), kv xs[n1] < kv (xs[j]'(by omega)) := fun j h1 hj => by
    have e := hhi j h1 hj
    simp only [Nat.zero_add] at e
    rw [dif_pos (show j < xs.size by omega)] at e
    simpa using e
  by_cases hk1 : n1 - k = 0
  · rw [if_pos (by simpa using hk1)]
    exact wpS_pure (fin st1 K1.2.2.2 rfl (by rw [K1a]; exact hpx) (by rw [K1a]; exact whole fun i hi => A1 i (by omega)))
  rw [if_neg (by simpa using hk1)]
  have ec : 0 + k + (n1 - k) - 1 = n1 - 1 := by omega
  rw [ec]
  refine wpS_bind (wp_elem (drop_at c0).1 ?_)
  refine wpS_bind (wp_gal (segL (b := n1) (n := n2) hI S2 (hI _ (mem_at c0)) (by omega)) K1.1 (show n2 - 1 < n2 by omega) fun m hm hlo2 hhi2 => ?_)
  dsimp only
  have B1 : ∀ j (h1 : n1 ≤ j) (hj : j < n1 + m), kv (xs[j]'(by omega)) < kv xs[n1 - 1] := fun j h1 hj => by
    obtain ⟨d, rfl⟩ : ∃ d, j = n1 + d := ⟨j - n1, by omega⟩
    have e := hlo2 d (by omega)
    rw [dif_pos (show n1 + d < xs.size by omega)] at e
    simpa using e
  have B2 : ∀ j (h1 : n1 + m ≤ j) (hj : j < xs.size), kv xs[n1 - 1] ≤ kv xs[j] := fun j h1 hj => by
    obtain ⟨d, rfl⟩ : ∃ d, j = n1 + d := ⟨j - n1, by omega⟩
    have e := hhi2 d (by omega) (by omega)
    rw [dif_pos hj] at e
    have e' : ¬ kv xs[n1 + d] < kv xs[n1 - 1] := by simpa using e
    omega
  by_cases hm0 : m = 0
  · rw [if_pos (by simpa using hm0)]
    have wh := whole fun i hi => Int.le_trans (sa i (n1 - 1) (by omega) (by omega)) (B2 n1 (by omega) b0)
    exact wpS_pure (fin st1 K1.2.2.2 rfl (by rw [K1a]; exact hpx) (by rw [K1a]; exact wh))
  rw [if_neg (by simpa using hm0)]
  rw [Nat.zero_add]
  obtain ⟨X, hX⟩ : ∃ X, X = xs.extract k n1 := ⟨_, rfl⟩
  obtain ⟨Y, hY⟩ : ∃ Y, Y = xs.extract n1 (n1 + m) := ⟨_, rfl⟩
  rw [← hX, ← hY]
  have sX : X.size = n1 - k := by rw [hX, Array.size_extract]; omega
  have sY : Y.size = m := by rw [hY, Array.size_extract]; omega
  have mX : ∀ x ∈ X.toList, ∃ j, k ≤ j ∧ j < n1 ∧ ∃ hj : j < xs.size, x = xs[j] := fun x hx => by rw [hX] at hx; exact mem_ext hx
  have mY : ∀ x ∈ Y.toList, ∃ j, n1 ≤ j ∧ j < n1 + m ∧ ∃ hj : j < xs.size, x = xs[j] := fun x hx => by rw [hY] at hx; exact mem_ext hx
  have T : Two X Y := by
    refine ⟨fun x hx => ?_, fun x hx => ?_, ?_, ?_, by omega, by omega, fun y hy x hx => ?_, fun x hx y hy => ?_⟩
    · obtain ⟨j, _, _, hj, rfl⟩ := mX x hx
      exact hI _ (mem_at hj)
    · obtain ⟨j, _, _, hj, rfl⟩ := mY x hx
      exact hI _ (mem_at hj)
    · rw [hX]
      exact up_ext (by omega) fun i j a b c => S1 i j (Nat.zero_le _) b c
    · rw [hY]
      exact up_ext (by omega) fun i j a b c => S2 i j a b (by omega)
    · have e : y = xs[n1] := by
        rw [hY, Array.getElem?_extract] at hy
        rw [if_pos (by omega), Nat.add_zero, getElem?_pos xs n1 b0] at hy
        exact (Option.some.inj hy).symm
      obtain ⟨j, j1, j2, hj, rfl⟩ := mX x hx
      rw [e]
      exact Int.le_of_lt (A2 j j1 j2)
    · have e : x = xs[n1 - 1] := by
        rw [sX, hX, Array.getElem?_extract] at hx
        rw [if_pos (by omega), show k + (n1 - k - 1) = n1 - 1 by omega, getElem?_pos xs (n1 - 1) c0] at hx
        exact (Option.some.inj hx).symm
      obtain ⟨j, j1, j2, hj, rfl⟩ := mY y hy
      rw [e]
      exact Int.le_of_lt (B1 j j1 j2)
  have tail : ∀ (r : Array Keyed) (st' : SortSt), Good (X.toList ++ Y.toList) r.toList → Kept st1 st' →
      Q (failedOf (setArr st' (r.toList.zipIdx.foldl (fun a (p, j) => a.setIfInBounds (k + j) p) (arrOf st')))).isNone (setArr st' (r.toList.zipIdx.foldl (fun a (p, j) => a.setIfInBounds (k + j) p) (arrOf st'))) := fun r st' g k1 => by
    have hr : r.toList.length = n1 - k + m := by
      rw [g.1.length_eq, List.length_append, Array.length_toList, Array.length_toList, sX, sY]
    have el : (r.toList.zipIdx.foldl (fun a (p, j) => a.setIfInBounds (k + j) p) (arrOf st')).toList = xs.toList.take k ++ r.toList ++ xs.toList.drop (n1 + m) := by
      rw [k1.2.1, K1a]
      have := put_list k r.toList 0 xs (by omega)
      rw [show k + 0 + r.toList.length = n1 + m by omega, Nat.add_zero] at this
      exact this
    obtain ⟨R, hR⟩ : ∃ R, R = r.toList.zipIdx.foldl (fun a (p, j) => a.setIfInBounds (k + j) p) (arrOf st') := ⟨_, rfl⟩
    rw [← hR] at el ⊢
    have ex : xs.toList = xs.toList.take k ++ (X.toList ++ Y.toList) ++ xs.toList.drop (n1 + m) := by
      have t1 := take_part xs (show k ≤ n1 by omega)
      have t2 := take_part xs (show n1 ≤ n1 + m by omega)
      rw [← hX] at t1
      rw [← hY, t1, List.append_assoc] at t2
      rw [← t2, List.take_append_drop]
    have pm : R.toList.Perm xs.toList := by
      rw [el]
      conv => rhs; rw [ex]
      exact List.Perm.append_right _ (List.Perm.append_left _ g.1)
    have pR : R.Perm a₀ := (Array.perm_iff_toList_perm.mpr pm).trans hpx
    have inr : ∀ u ∈ r.toList, (∃ j, k ≤ j ∧ j < n1 ∧ ∃ hj : j < xs.size, u = xs[j]) ∨ ∃ j, n1 ≤ j ∧ j < n1 + m ∧ ∃ hj : j < xs.size, u = xs[j] := fun u hu => by
      rcases List.mem_append.mp (g.1.mem_iff.mp hu) with z | z
      · exact .inl (mX u z)
      · exact .inr (mY u z)
    have up : Up R.toList := by
      rw [el]
      refine List.pairwise_append.mpr ⟨List.pairwise_append.mpr ⟨?_, g.2, fun u hu v hv => ?_⟩, ?_, fun u hu v hv => ?_⟩
      · refine List.pairwise_iff_getElem.mpr fun i j hi hj hij => ?_
        rw [List.length_take, Array.length_toList] at hi hj
        rw [List.getElem_take, List.getElem_take]
        exact sa i j (by omega) (by omega)
      · obtain ⟨i, hi, hi2, rfl⟩ := mem_take hu
        rcases inr v hv with ⟨j, j1, j2, hj, rfl⟩ | ⟨j, j1, j2, hj, rfl⟩
        · exact sa i j (by omega) j2
        · exact Int.le_trans (A1 i hi) (sb n1 j (Nat.le_refl _) j1 hj)
      · refine List.pairwise_iff_getElem.mpr fun i j hi hj hij => ?_
        rw [List.length_drop, Array.length_toList] at hi hj
        rw [List.getElem_drop, List.getElem_drop]
        exact sb (n1 + m + i) (n1 + m + j) (by omega) (by omega) (by omega)
      · obtain ⟨j, hj, hj2, rfl⟩ := mem_rest hv
        rcases List.mem_append.mp hu with z | z
        · obtain ⟨i, hi, hi2, rfl⟩ := mem_take z
          exact Int.le_trans (A1 i hi) (sb n1 j (Nat.le_refl _) (by omega) hj2)
        · rcases inr u z with ⟨i, i1, i2, hi, rfl⟩ | ⟨i, i1, i2, hi, rfl⟩
          · exact Int.le_trans (sa i (n1 - 1) (by omega) (by omega)) (B2 j hj hj2)
          · exact sb i j i1 (by omega) hj2
    have hf : (failedOf (setArr st' R)).isNone = true := by
      show (failedOf st').isNone = true
      rw [k1.2.2.2]
      rfl
    rw [hf]
    exact fin (setArr st' R) k1.2.2.2 k1.2.2.1 pR up
  refine wp_ite (fun _ => ?_) (fun _ => ?_)
  · refine wpS_bind (wp_mlo T K1 fun r st' g k1 => ?_)
    exact wpS_bind (wpS_modify (wpS_bind (wpS_get (wpS_pure (tail r st' g k1)))))
  · refine wpS_bind (wp_mhi T K1 fun r st' g k1 => ?_)
    exact wpS_bind (wpS_modify (wpS_bind (wpS_get (wpS_pure (tail r st' g k1)))))
end
end Srt

set_option Elab.async false
set_option linter.all false
set_option maxRecDepth 100000
set_option maxHeartbeats 4000000
namespace Srt
open PySem PyProof.Rows
theorem minrun_of {n : Nat} (h1 : 64 ≤ n) (h2 : n < 128) : ∃ mr, minRun' n n 0 = mr ∧ mr ≤ n ∧ n ≤ 2 * mr := by
  obtain ⟨f, hf⟩ : ∃ f, n = f + 1 + 1 := ⟨n - 2, by omega⟩
  refine ⟨_, rfl, ?_⟩
  have e : minRun' n n 0 = n / 2 + max 0 (n % 2) := by
    conv => lhs; rw [hf]
    rw [← hf]
    conv => lhs; rw [hf]
    rw [minRun'_succ, if_neg (by omega), minRun'_succ, if_pos (by omega), ← hf]
  rw [e]
  omega
section
variable {prog : Program} {w : World} {A : Around} {E : Value → Shared → Prop} {s : Shared} {a₀ : Array Keyed}
def TwoR (a₀ : Array Keyed) (st : SortSt) : Prop := ∃ n1 n2 pw, n1 + n2 = a₀.size ∧ 1 ≤ n1 ∧ 1 ≤ n2 ∧ Bs a₀ #[(0, n1, pw), (n1, n2, 0)] st ∧ Seg (arrOf st) 0 n1 ∧ Seg (arrOf st) n1 (n1 + n2)
def FinR (a₀ : Array Keyed) (st : SortSt) : Prop := (arrOf st).Perm a₀ ∧ failedOf st = none ∧ (pendingOf st).size ≤ 1 ∧ SortedTo (arrOf st) a₀.size
theorem wp_runs {st : SortSt} {Q : Unit → SortSt → Prop} (h0 : IntKeys a₀) (hB : SBase a₀ st) (h64 : 64 ≤ a₀.size) (h128 : a₀.size < 128)
    (h : ∀ st', (arrOf st').Perm a₀ → failedOf st' = none → SortedTo (arrOf st') a₀.size → Q () st') : wpS (model prog w) A E s sortRuns' Q st := by
  rw [sortRuns'_eq]
  refine wpS_bind (wpS_get ?_)
  dsimp only
  obtain ⟨mr, hmr, hm1, hm2⟩ := minrun_of h64 h128
  simp only [hB.size, hmr]
  refine wpS_bind (wpS_mono (wpS_forRange
    (I := fun x c st' => (x = 0 ∧ c = (none, 0) ∧ Bs a₀ #[] st') ∨ (∃ n1, c = (none, n1) ∧ mr ≤ n1 ∧ 1 ≤ n1 ∧ n1 < a₀.size ∧ x = 1 ∧ Bs a₀ #[(0, n1, 0)] st' ∧ Seg (arrOf st') 0 n1) ∨ (1 ≤ x ∧ c = (none, a₀.size) ∧ (TwoR a₀ st' ∨ FinR a₀ st')))
    (Q := fun c st' => c = (none, a₀.size) ∧ (TwoR a₀ st' ∨ FinR a₀ st')) ?step ?fin (.inl ⟨rfl, rfl, ⟨hB.perm, hB.kind, hB.failed, hB.pend⟩⟩)) ?post)
  case fin =>
    rintro c st' (⟨hx, _⟩ | ⟨n1, _, _, _, _, hx, _⟩ | ⟨_, hc, hD⟩)
    · omega
    · omega
    · exact ⟨hc, hD⟩
  case step =>
    rintro x c st' _ hx (⟨rfl, rfl, hB'⟩ | ⟨n1, rfl, g1, g2, g3, rfl, hB', hS⟩ | ⟨hx1, rfl, hD⟩)
    · dsimp only
      rw [if_neg (by omega)]
      simp only [Nat.sub_zero, Nat.zero_add]
      refine wpS_bind (wp_count h0 (by omega) (by omega) hB' fun m st2 hB2 _ k1 k2 hs2 => ?_)
      rw [Nat.zero_add] at hs2
      dsimp only
      have push : ∀ (n : Nat) (st3 : SortSt), Bs a₀ #[] st3 → Seg (arrOf st3) 0 n → mr ≤ n → n ≤ a₀.size →
          (n = a₀.size ∧ FinR a₀ (setPending st3 ((pendingOf st3).push (0, n, 0)))) ∨ (1 ≤ n ∧ n < a₀.size ∧ Bs a₀ #[(0, n, 0)] (setPending st3 ((pendingOf st3).push (0, n, 0))) ∧ Seg (arrOf (setPending st3 ((pendingOf st3).push (0, n, 0)))) 0 n) := fun n st3 b1 b2 b3 b4 => by
        have ep : (pendingOf st3).push (0, n, 0) = #[(0, n, 0)] := by rw [b1.pend]; rfl
        by_cases z : n = a₀.size
        · subst z
          refine .inl ⟨rfl, b1.perm, b1.failed, ?_, fun i j a b => b2 i j (Nat.zero_le _) a b⟩
          show ((pendingOf st3).push (0, a₀.size, 0)).size ≤ 1
          rw [ep]
          exact Nat.le_refl 1
        · exact .inr ⟨by omega, by omega, ⟨b1.perm, b1.kind, b1.failed, ep⟩, b2⟩
      have back0 : ∀ st3 : SortSt, Bs a₀ #[] st3 → (pendingOf st3).back? = none := fun st3 b1 => by rw [b1.pend]; rfl
      by_cases hlt : m < mr
      · rw [if_pos hlt]
        refine wpS_bind (wpS_lift (wpAny_rule ⟨rfl, ?_⟩))
        simp only [Nat.min_eq_right hm1]
        refine wpS_bind (wp_bins (lo := 0) h0 (by omega) (by omega) hB2 (by rw [Nat.zero_add]; exact hs2) fun st3 hB3 _ hs3 => ?_)
        rw [Nat.zero_add] at hs3
        simp only [Bool.not_true, Bool.false_eq_true, if_false]
        refine wpS_bind (wpS_get ?_)
        rw [back0 st3 hB3]
        dsimp only
        refine wpS_bind (wpS_modify (wpS_pure ?_))
        rcases push mr st3 hB3 hs3 (Nat.le_refl _) hm1 with ⟨z1, z2⟩ | ⟨z1, z2, z3, z4⟩
        · exact .inr (.inr ⟨by omega, by rw [z1], .inr z2⟩)
        · exact .inr (.inl ⟨mr, rfl, Nat.le_refl _, z1, z2, by first | rfl | trivial, z3, z4⟩)
      · rw [if_neg hlt]
        refine wpS_bind (wpS_get ?_)
        rw [back0 st2 hB2]
        dsimp only
        refine wpS_bind (wpS_modify (wpS_pure ?_))
        rcases push m st2 hB2 hs2 (by omega) k2 with ⟨z1, z2⟩ | ⟨z1, z2, z3, z4⟩
        · exact .inr (.inr ⟨by omega, by rw [z1], .inr z2⟩)
        · exact .inr (.inl ⟨m, rfl, by omega, z1, z2, by first | rfl | trivial, z3, z4⟩)
    · dsimp only
      rw [if_neg (by omega)]
      refine wpS_bind (wp_count h0 (by omega) (by omega) hB' fun m st2 hB2 lw2 k1 k2 hs2 => ?_)
      dsimp only
      have segs : ∀ st3 : SortSt, Low n1 (arrOf st') (arrOf st3) → Seg (arrOf st3) 0 n1 := fun st3 lw i j a b c => by
        rw [lw i (by omega), lw j c]
        exact hS i j a b c
      by_cases hlt : m < mr
      case' pos =>
        rw [if_pos hlt]
        refine wpS_bind (wpS_lift (wpAny_rule ⟨rfl, ?_⟩))
        simp only [Nat.min_eq_left (show a₀.size - n1 ≤ mr by omega)]
        refine wpS_bind (wp_bins h0 (show n1 + (a₀.size - n1) ≤ a₀.size by omega) k2 hB2 hs2 fun st3 hB3 lw3 hs3 => ?_)
        simp only [Bool.not_true, Bool.false_eq_true, if_false]
        have F1 := segs st3 (lw2.trans lw3)
        clear hs2 hB2 lw2 lw3 k1 k2 hlt
      case' neg =>
        rw [if_neg hlt]
        obtain rfl : m = a₀.size - n1 := by omega
        have F1 := segs st2 lw2
        have hB3 := hB2
        have hs3 := hs2
        clear hs2 hB2 lw2 k1 k2 hlt
        generalize st2 = st3 at F1 hB3 hs3 ⊢
      all_goals
        refine wpS_bind (wpS_get ?_)
        have eb : (pendingOf st3).back? = some (0, n1, 0) := by rw [hB3.pend]; rfl
        rw [eb]
        dsimp only
        refine wpS_bind (wpS_mono (wpS_forRange (I := fun _ c st'' => st'' = st3 ∧ c = (none, ())) (Q := fun c st'' => st'' = st3 ∧ c = (none, ())) ?s2 (fun _ _ hh => hh) ⟨rfl, rfl⟩) ?p2)
        case s2 =>
          rintro y c st'' _ _ ⟨rfl, rfl⟩
          refine wpS_bind (wpS_get ?_)
          have e1 : (pendingOf st'').size = 1 := by rw [hB3.pend]; rfl
          rw [if_neg (by omega)]
          exact wpS_pure ⟨rfl, rfl⟩
        case p2 =>
          rintro c st'' ⟨rfl, rfl⟩
          dsimp only
          refine wpS_bind (wpS_modify (wpS_bind (wpS_modify (wpS_pure (.inr (.inr ⟨by omega, ?_, .inl ⟨n1, a₀.size - n1, power' a₀.size (2 * 0 + n1) (2 * 0 + n1 + n1 + (a₀.size - n1)) a₀.size, by omega, g2, by omega, ⟨hB3.perm, hB3.kind, hB3.failed, ?_⟩, F1, hs3⟩⟩))))))
          · rw [show n1 + (a₀.size - n1) = a₀.size by omega]
          · show ((pendingOf st'').modify ((pendingOf st'').size - 1) _).push _ = _
            rw [hB3.pend]
            rfl
    · dsimp only
      rw [if_pos (Nat.le_refl _)]
      exact wpS_pure ⟨rfl, hD⟩
  case post =>
    rintro c st' ⟨rfl, hD⟩
    dsimp only
    refine wpS_bind (wpS_mono (wpS_forRange (I := fun x c st'' => c = (none, ()) ∧ ((x = 0 ∧ TwoR a₀ st'') ∨ FinR a₀ st'')) (Q := fun c st'' => c = (none, ()) ∧ FinR a₀ st'') ?s3 ?f3 ⟨rfl, ?i3⟩) ?p3)
    case i3 =>
      rcases hD with z | z
      · exact .inl ⟨rfl, z⟩
      · exact .inr z
    case f3 =>
      rintro c st'' ⟨hc, ⟨hx, _⟩ | z⟩
      · omega
      · exact ⟨hc, z⟩
    case p3 =>
      rintro c st'' ⟨rfl, z1, z2, z3, z4⟩
      exact wpS_pure (h _ z1 z2 z4)
    case s3 =>
      rintro x c st'' _ hx ⟨rfl, ⟨rfl, n1, n2, pw, t1, t2, t3, t4, t5, t6⟩ | z⟩
      · refine wpS_bind (wpS_get ?_)
        rw [t4.pend]
        have e1 : (#[(0, n1, pw), (n1, n2, 0)] : Array (Nat × Nat × Nat)).size = 2 := rfl
        rw [e1, if_neg (by omega)]
        refine wpS_bind (wp_mAt h0 t4 t1 t2 t3 t5 t6 fun st4 u1 u2 u3 u4 => ?_)
        simp only [Bool.not_true, Bool.false_eq_true, if_false]
        exact wpS_pure ⟨rfl, .inr ⟨u1, u2, by rw [u3]; exact Nat.le_refl 1, u4⟩⟩
      · refine wpS_bind (wpS_get ?_)
        rw [if_pos z.2.2.1]
        exact wpS_pure ⟨rfl, z⟩
end
end Srt

set_option Elab.async false
set_option linter.all false
set_option maxRecDepth 100000
set_option maxHeartbeats 4000000
namespace Srt
open PySem PyProof.Rows
section
variable {prog : Program} {w : World} {A : Around} {E : Value → Shared → Prop} {s : Shared}
theorem tree_big {l : Addr} {us : List Value} {zs : List Int} {e0 : Nat} {P : Fin → Shared → Prop} (hl : s.heap.get? l = some (seqObj "list" us.toArray e0)) (hz : IntsAre us zs) (hlo : 64 ≤ us.length) (hhi : us.length < 128)
    (q : ∀ (out : Array Value) (ys : List Int), IntsAre out.toList ys → ys.Perm zs → ys.Pairwise (· ≤ ·) → P (.done (.ret .none)) { s with heap := sortedHeap s.heap l us out }) :
    wpAny (model prog w) A (Builtin.«list.sort» ⟨[.ref l], []⟩) P E s := by
  rw [list_sort_plain]
  have hlt : l < s.heap.objs.size := Heap.lt_size hl
  refine wpAny_bind (listItems_at hl rfl (wpAny_bind (listUpdate_at hl rfl ?_)))
  obtain ⟨e1, h1⟩ : ∃ e1, (s.heap.update l (Obj.mapSeq fun _ => #[])).get? l = some (seqObj "list" #[] e1) := ⟨_, get?_update_seq hl (fun _ => #[])⟩
  refine wpAny_bind (seqEpoch_at h1 rfl (wpAny_bind (wpAny_newTuple (wpAny_bind (wpAny_newList (wpAny_holding ?_))))))
  have h6 : (((s.heap.update l (Obj.mapSeq fun _ => #[])).push (seqObj "tuple" us.toArray 0)).push (seqObj "list" #[] 0)).get? l = some (seqObj "list" #[] e1) := by
    have n1 : l ≠ ((s.heap.update l (Obj.mapSeq fun _ => #[])).push (seqObj "tuple" us.toArray 0)).objs.size := by rw [size_push', Heap.size_update]; exact Nat.ne_of_lt (Nat.lt_succ_of_lt hlt)
    have n2 : l ≠ (s.heap.update l (Obj.mapSeq fun _ => #[])).objs.size := by rw [Heap.size_update]; exact Nat.ne_of_lt hlt
    rw [Heap.get?_push_ne _ _ _ n1, Heap.get?_push_ne _ _ _ n2]
    exact h1
  show wpAny (model prog w) A _ P E { s with heap := ((s.heap.update l (Obj.mapSeq fun _ => #[])).push (seqObj "tuple" us.toArray 0)).push (seqObj "list" #[] 0) }
  dsimp only
  have hn : ¬ us.toArray.size < 2 := by rw [List.size_toArray]; omega
  rw [if_neg hn, if_neg hn]
  obtain ⟨v1, v2, rest, rfl⟩ : ∃ v1 v2 rest, us = v1 :: v2 :: rest := by
    match us, hlo with
    | [], z => simp at z
    | [_], z => simp at z
    | v1 :: v2 :: rest, _ => exact ⟨v1, v2, rest, rfl⟩
  rw [keyKind_ints hz]
  refine wpAny_bind (wpAny_pure ?_)
  have run := wp_runs (prog := prog) (w := w) (A := A) (E := E) (s := { s with heap := ((s.heap.update l (Obj.mapSeq fun _ => #[])).push (seqObj "tuple" (v1 :: v2 :: rest).toArray 0)).push (seqObj "list" #[] 0) })
    (a₀ := pairsOf (v1 :: v2 :: rest)) (st := SortSt.mk' oneType' ((v1 :: v2 :: rest).toArray.zip (v1 :: v2 :: rest).toArray) #[] 7 none)
    (Q := fun _ z => (arrOf z).Perm (pairsOf (v1 :: v2 :: rest)) ∧ failedOf z = none ∧ SortedTo (arrOf z) (pairsOf (v1 :: v2 :: rest)).size)
    hz.intKeys ⟨Array.Perm.refl _, rfl, rfl, rfl⟩ (by rw [pairsOf_size]; exact hlo) (by rw [pairsOf_size]; exact hhi) fun z a1 a2 a3 => ⟨a1, a2, a3⟩
  refine wpAny_bind (wpAny_mono run ?_ fun _ _ e => e)
  rintro ⟨⟨⟩, z⟩ s' ⟨rfl, hp, hf, hs⟩
  dsimp only
  have hsz : ((arrOf z).map (·.2)).size = (v1 :: v2 :: rest).length := (Array.size_map ..).trans (hp.size_eq.trans (pairsOf_size _))
  refine wpAny_bind (seqEpoch_at h6 rfl (wpAny_bind (listUpdate_at h6 rfl ?_ (hsz2 := by rw [hsz, sizeLine_eq]; omega))))
  rw [hf]
  simp only [bne_self_eq_false, Bool.false_eq_true, if_false]
  obtain ⟨ys, y1, y2, y3⟩ := sorted_out hz hp hs
  exact wpAny_pure (q _ ys y1 y2 y3)
theorem tree_any {l : Addr} {us : List Value} {zs : List Int} {e0 : Nat} {P : Fin → Shared → Prop} (hl : s.heap.get? l = some (seqObj "list" us.toArray e0)) (hz : IntsAre us zs) (hhi : us.length < 128)
    (q : ∀ (out : Array Value) (ys : List Int), IntsAre out.toList ys → ys.Perm zs → ys.Pairwise (· ≤ ·) → P (.done (.ret .none)) { s with heap := sortedHeap s.heap l us out }) :
    wpAny (model prog w) A (Builtin.«list.sort» ⟨[.ref l], []⟩) P E s := by
  by_cases h : us.length < 64
  · exact list_sort_tree hl hz h q
  · exact tree_big hl hz (by omega) hhi q
theorem sorted_any {l : Addr} {us : List Value} {zs : List Int} {Q : Value → Shared → Prop} (hl : s.heap.IsList l us.toArray) (hz : IntsAre us zs) (hhi : us.length < 128)
    (q : ∀ (out : Array Value) (ys : List Int), IntsAre out.toList ys → ys.Perm zs → ys.Pairwise (· ≤ ·) → Q (.ref (s.heap.objs.size + 1)) { s with heap := sortedAll s.heap us out }) :
    wpAny (model prog w) A (call (.builtin "sorted") [.ref l]) Q E s := by
  refine Calls.call_function_entry kind_sorted plain_sorted entry_sorted (args_sorted1 _) ?_
  unfold Builtin.«sorted»
  refine wpAny_bind (m := checkCount "sorted" 1 1 _) (wpAny_pure (wpAny_bind (collect_list hl (wpAny_bind (wpAny_newList ?_)) (by rw [sizeLine_eq]; omega))))
  have n1 : ((s.heap.push (seqObj "list" #[] 0)).update s.heap.objs.size (Obj.mapSeq (· ++ us.toArray))).objs.size = s.heap.objs.size + 1 := by rw [Heap.size_update, size_push']
  have n2 : (((s.heap.push (seqObj "list" #[] 0)).update s.heap.objs.size (Obj.mapSeq (· ++ us.toArray))).push (seqObj "list" us.toArray 0)).get? (s.heap.objs.size + 1) = some (seqObj "list" us.toArray 0) := by
    rw [← n1]
    exact Heap.get?_push_size _ rfl
  show wpAny _ _ _ _ _ { s with heap := ((s.heap.push (seqObj "list" #[] 0)).update s.heap.objs.size (Obj.mapSeq (· ++ us.toArray))).push (seqObj "list" us.toArray 0) }
  rw [n1]
  refine wpAny_bind (wpAny_holding (wpAny_call_entry slot_list_sort ⟨_, n2, rfl⟩ entry_list_sort (tree_any n2 hz hhi fun out ys a1 a2 a3 => ⟨_, rfl, wpAny_pure ⟨_, rfl, q out ys a1 a2 a3⟩⟩) (args_list_sort _)))
end
end Srt

set_option Elab.async false
set_option linter.all false
set_option maxRecDepth 100000
set_option maxHeartbeats 4000000
namespace L3
open PySem PySem.Spec PyProof.Rows L2
section
variable {X : Cx}
theorem call_sorted_128 : CallR X (.builtin "sorted") (fun xs H Q => ∃ (p : Addr) (ns : List Int), xs = [.ref p] ∧ SqL X.K H p (ns.map V.int) ∧ ns.length < 128 ∧
    ∀ (l : Addr) (ms : List Int), H l = none → ms.Perm ns → ms.Pairwise (· ≤ ·) → Q (.ref l) (upd H l (.lst (ms.map V.int)))) := by
  intro pins s σ H xs us Q I r h
  obtain ⟨p, ns, rfl, hq, h64, q⟩ := h
  obtain ⟨u, rfl, rx⟩ := vals1 r
  cases rx
  obtain ⟨its, r', pl, hz⟩ := I.list hq
  have hlen := r'.length
  rw [List.length_map] at hlen hz
  have hI := intsAre_of r'
  refine Srt.sorted_any pl.isList hI (by omega) fun out ns' a1 a2 a3 => ?_
  obtain ⟨e, he⟩ := sortedAll_at s.heap its out
  have hl' : ns'.length = ns.length := a2.length_eq
  have I1 : Inv X pins σ (upd H (s.heap.objs.size + 1) (.lst (ns'.map V.int))) { s with heap := sortedAll s.heap its out } :=
    I.laid (t' := s.toks) (fun b o eb => sortedAll_old eb) (Nat.le_succ _)
      (show ObjOk X.prog X.w _ _ _ (.lst (ns'.map V.int)) from ⟨by rw [List.length_map, hl']; exact hz, out.toList, e, vals_ints a1, by rw [Array.toArray_toList]; exact he⟩)
  exact ⟨.ref (s.heap.objs.size + 1), _, I1, rfl, q _ ns' (I.hok.fresh (Nat.le_succ _)) a2 a3⟩

end
end L3

set_option Elab.async false
set_option linter.all false
set_option maxRecDepth 100000
set_option maxHeartbeats 4000000
namespace L3
open PySem PySem.Spec PyProof.Rows L2
section
variable {X : Cx}
theorem call_min_list (hc : X.calm = true) : CallR X (.builtin "min") (fun xs H Q => ∃ (p : Addr) (ns : List Int), xs = [.ref p] ∧ SqL X.K H p (ns.map V.int) ∧ 0 < ns.length ∧ ∀ M : Int, M ∈ ns → (∀ a ∈ ns, M ≤ a) → Q (.int M) H) := by
  intro pins s σ H xs us Q I r h
  obtain ⟨p, ns, rfl, hq, hne, q⟩ := h
  obtain ⟨u, rfl, rx⟩ := vals1 r
  cases rx
  obtain ⟨its, r', pl, hz⟩ := I.list hq
  have hI := intsAre_of r'
  obtain ⟨xs, e⟩ := hI.allInts.items
  have hns : ns = xs.toList.map (·.1) := by rw [← hI.numsOf, ← nums_intItems, ← e]
  have hsz : 0 < xs.size := by rw [hns, List.length_map, Array.length_toList] at hne; exact hne
  have hl := pl.isList
  rw [e] at hl
  refine min_intList (I.ok.hd hc) hl hsz fun v h' tk hv hk => ?_
  obtain ⟨t, rfl⟩ := intItems_at hv
  obtain ⟨g1, g2⟩ := argBest_lt (numAt xs) (xs.size - 1)
  refine ⟨.int _, H, I.kept (t' := tk) hk, ⟨t, rfl⟩, q _ ?_ fun a ha => ?_⟩
  · rw [hns, numAt_eq]
    exact getD_mem (by rw [List.length_map, Array.length_toList]; omega)
  · rw [hns] at ha
    obtain ⟨j, hj, rfl⟩ := mem_getD ha
    rw [List.length_map, Array.length_toList] at hj
    rw [← numAt_eq]
    exact g2 j (by omega)
end
end L3

set_option Elab.async false
set_option linter.all false
set_option maxRecDepth 100000
set_option maxHeartbeats 4000000
namespace Rb
open PySem L2 L3 PyProof.Rows
def top (i : Nat) : Stmt := PySem.Challenge.pw_rodbeads_k08_whole_back_and_there.main.body.getD i (.Pass ⟨0, 0, 0, 0⟩)
abbrev s_beads : Stmt := top 9
abbrev s_row_of : Stmt := top 10
abbrev s_check_places : Stmt := top 11
abbrev s_core : Stmt := top 13
abbrev s_quotient : Stmt := top 14
abbrev s_is_core : Stmt := top 15
abbrev s_charges : Stmt := top 16
abbrev s_core_of : Stmt := top 17
abbrev s_joined : Stmt := top 18
abbrev s_check_rods : Stmt := top 19
abbrev s_share : Stmt := top 20
abbrev s_parted : Stmt := top 21
abbrev s_heights_on : Stmt := top 22
abbrev s_laid : Stmt := top 23
abbrev s_ldrawn : Stmt := top 25
abbrev s_lwhole : Stmt := top 26
abbrev s_lrow : Stmt := top 27
abbrev s_lrows : Stmt := top 28
abbrev s_lrow_by : Stmt := top 29
abbrev s_ltold : Stmt := top 31
abbrev s_lcharges_by : Stmt := top 34
abbrev s_law : Stmt := top 35
theorem sc_beads : FnScope ["row", "many", "spare", "gaps"] ["row", "many"] (defScope s_beads) := ⟨rfl, rfl, rfl, by decide +kernel, rfl, by decide +kernel, by decide +kernel⟩
theorem sc_row_of : FnScope ["places", "gaps"] ["places"] (defScope s_row_of) := ⟨rfl, rfl, rfl, by decide +kernel, rfl, by decide +kernel, by decide +kernel⟩
theorem sc_check_places : FnScope ["places", "last", "place"] ["places"] (defScope s_check_places) := ⟨rfl, rfl, rfl, by decide +kernel, rfl, by decide +kernel, by decide +kernel⟩
theorem sc_core : FnScope ["row", "rods"] ["row", "rods"] (defScope s_core) := ⟨rfl, rfl, rfl, by decide +kernel, rfl, by decide +kernel, by decide +kernel⟩
theorem sc_quotient : FnScope ["row", "rods"] ["row", "rods"] (defScope s_quotient) := ⟨rfl, rfl, rfl, by decide +kernel, rfl, by decide +kernel, by decide +kernel⟩
theorem sc_is_core : FnScope ["row", "rods"] ["row", "rods"] (defScope s_is_core) := ⟨rfl, rfl, rfl, by decide +kernel, rfl, by decide +kernel, by decide +kernel⟩
theorem sc_charges : FnScope ["row", "rods"] ["row", "rods"] (defScope s_charges) := ⟨rfl, rfl, rfl, by decide +kernel, rfl, by decide +kernel, by decide +kernel⟩
theorem sc_core_of : FnScope ["numbers"] ["numbers"] (defScope s_core_of) := ⟨rfl, rfl, rfl, by decide +kernel, rfl, by decide +kernel, by decide +kernel⟩
theorem sc_joined : FnScope ["middle", "rows", "rods"] ["middle", "rows", "rods"] (defScope s_joined) := ⟨rfl, rfl, rfl, by decide +kernel, rfl, by decide +kernel, by decide +kernel⟩
theorem sc_check_rods : FnScope ["rods"] ["rods"] (defScope s_check_rods) := ⟨rfl, rfl, rfl, by decide +kernel, rfl, by decide +kernel, by decide +kernel⟩
theorem sc_share : FnScope ["row", "rods"] ["row", "rods"] (defScope s_share) := ⟨rfl, rfl, rfl, by decide +kernel, rfl, by decide +kernel, by decide +kernel⟩
theorem sc_parted : FnScope ["row", "rods", "places"] ["row", "rods"] (defScope s_parted) := ⟨rfl, rfl, rfl, by decide +kernel, rfl, by decide +kernel, by decide +kernel⟩
theorem sc_heights_on : FnScope ["places", "rods", "rod"] ["places", "rods", "rod"] (defScope s_heights_on) := ⟨rfl, rfl, rfl, by decide +kernel, rfl, by decide +kernel, by decide +kernel⟩
theorem sc_laid : FnScope ["numbers", "rows", "rods", "least", "places", "rod", "row", "heights"] ["numbers", "rows"] (defScope s_laid) := ⟨rfl, rfl, rfl, by decide +kernel, rfl, by decide +kernel, by decide +kernel⟩
theorem sc_ldrawn : FnScope ["script", "k", "many", "cell", "mixed"] ["script", "k", "many"] (defScope s_ldrawn) := ⟨rfl, rfl, rfl, by decide +kernel, rfl, by decide +kernel, by decide +kernel⟩
theorem sc_lwhole : FnScope ["found"] ["found"] (defScope s_lwhole) := ⟨rfl, rfl, rfl, by decide +kernel, rfl, by decide +kernel, by decide +kernel⟩
theorem sc_lrow : FnScope ["found", "due", "k"] ["found", "due"] (defScope s_lrow) := ⟨rfl, rfl, rfl, by decide +kernel, rfl, by decide +kernel, by decide +kernel⟩
theorem sc_lrows : FnScope ["found", "due", "k"] ["found", "due"] (defScope s_lrows) := ⟨rfl, rfl, rfl, by decide +kernel, rfl, by decide +kernel, by decide +kernel⟩
theorem sc_lrow_by : FnScope ["script", "base", "most", "left", "row", "greatest", "bound", "step"] ["script", "base", "most"] (defScope s_lrow_by) := ⟨rfl, rfl, rfl, by decide +kernel, rfl, by decide +kernel, by decide +kernel⟩
theorem sc_ltold : FnScope ["places", "found", "place", "number"] ["places"] (defScope s_ltold) := ⟨rfl, rfl, rfl, by decide +kernel, rfl, by decide +kernel, by decide +kernel⟩
theorem sc_lcharges_by : FnScope ["script", "rods", "numbers", "lap", "one", "other", "kept", "size", "k"] ["script", "rods"] (defScope s_lcharges_by) := ⟨rfl, rfl, rfl, by decide +kernel, rfl, by decide +kernel, by decide +kernel⟩
theorem sc_law : FnScope ["script", "rods", "numbers", "rows", "k", "middle", "handed", "found", "places", "many", "h", "number"] ["script"] (defScope s_law) := ⟨rfl, rfl, rfl, by decide +kernel, rfl, by decide +kernel, by decide +kernel⟩
def IsRow (ns : List Int) : Prop := (∀ j : Nat, j < ns.length → 1 ≤ ns.getD j 0) ∧ ∀ j : Nat, j + 1 < ns.length → ns.getD (j + 1) 0 ≤ ns.getD j 0
theorem getD_of {ns : List Int} {j : Nat} (h : j < ns.length) : ns[j]? = some (ns.getD j 0) := by
  rw [List.getD_eq_getElem?_getD, List.getElem?_eq_getElem h]; rfl
theorem at_int {ns : List Int} {i : Int} (h0 : 0 ≤ i) (h : i < (ns.length : Int)) : atI (ns.map V.int) i = some (.int (ns.getD i.toNat 0)) := by
  have hk : i.toNat < ns.length := by omega
  have ek : i = ((i.toNat : Nat) : Int) := by omega
  have q : atI (ns.map V.int) ((i.toNat : Nat) : Int) = some (.int (ns.getD i.toNat 0)) := atI_nat (by rw [List.getElem?_map, getD_of hk]; rfl)
  rw [← ek] at q
  exact q
theorem isRow_nil : IsRow [] := ⟨fun j h => absurd h (Nat.not_lt_zero j), fun j h => absurd h (Nat.not_lt_zero _)⟩
theorem fall_le {ns : List Int} (h : ∀ j : Nat, j + 1 < ns.length → ns.getD (j + 1) 0 ≤ ns.getD j 0) : ∀ (k i : Nat), i + k < ns.length → ns.getD (i + k) 0 ≤ ns.getD i 0
  | 0, i, _ => Int.le_refl _
  | k + 1, i, hk => by
    have a := fall_le h k i (by omega)
    have b := h (i + k) (by omega)
    have e : i + (k + 1) = i + k + 1 := by omega
    rw [e]; omega
theorem getD_elem {ns : List Int} {j : Nat} (h : j < ns.length) : ns[j] = ns.getD j 0 := by
  rw [List.getD_eq_getElem?_getD, List.getElem?_eq_getElem h]; rfl
theorem fall_pair {ns : List Int} : (∀ j : Nat, j + 1 < ns.length → ns.getD (j + 1) 0 ≤ ns.getD j 0) ↔ ns.Pairwise (fun a b => b ≤ a) := by
  rw [List.pairwise_iff_getElem]
  constructor
  · intro h i j hi hj hij
    rw [getD_elem hi, getD_elem hj]
    have e : j = i + (j - i) := by omega
    rw [e]
    exact fall_le h (j - i) i (by omega)
  · intro h j hj
    have := h j (j + 1) (by omega) hj (by omega)
    rw [getD_elem, getD_elem] at this
    exact this
theorem isRow_iff {ns : List Int} : IsRow ns ↔ (∀ x ∈ ns, 1 ≤ x) ∧ ns.Pairwise (fun a b => b ≤ a) := by
  unfold IsRow
  rw [fall_pair]
  refine and_congr_left fun _ => ⟨fun h x hx => ?_, fun h j hj => ?_⟩
  · obtain ⟨j, hj, e⟩ := List.getElem_of_mem hx
    have := h j hj
    rw [← getD_elem hj, e] at this
    exact this
  · rw [← getD_elem hj]
    exact h _ (List.getElem_mem hj)

theorem sort_one : ∀ {xs ys : List Int}, xs.Perm ys → xs.Pairwise (· ≤ ·) → ys.Pairwise (· ≤ ·) → xs = ys
  | [], ys, p, _, _ => (List.nil_perm.mp p).symm
  | x :: xs, [], p, _, _ => absurd (List.perm_nil.mp p) (by simp)
  | x :: xs, y :: ys, p, h1, h2 => by
    have a1 := List.pairwise_cons.mp h1
    have a2 := List.pairwise_cons.mp h2
    have e : x = y := by
      have m1 : x ∈ y :: ys := p.subset (List.mem_cons_self ..)
      have m2 : y ∈ x :: xs := p.symm.subset (List.mem_cons_self ..)
      rcases List.mem_cons.mp m1 with z | z
      · exact z
      · rcases List.mem_cons.mp m2 with z' | z'
        · exact z'.symm
        · have b1 := a1.1 y z'
          have b2 := a2.1 x z
          omega
    subst e
    rw [sort_one ((List.perm_cons x).mp p) a1.2 a2.2]
theorem getD_app_left {r : List Int} {x : Int} {j : Nat} (h : j < r.length) : (r ++ [x]).getD j 0 = r.getD j 0 := by
  rw [List.getD_eq_getElem?_getD, List.getD_eq_getElem?_getD, List.getElem?_append_left h]
theorem getD_app_last {r : List Int} {x : Int} : (r ++ [x]).getD r.length 0 = x := by
  rw [List.getD_eq_getElem?_getD, List.getElem?_append_right (Nat.le_refl _), Nat.sub_self]; rfl
theorem isRow_snoc {r : List Int} {x : Int} (h : IsRow r) (h1 : 1 ≤ x) (h2 : r = [] ∨ x ≤ r.getD (r.length - 1) 0) : IsRow (r ++ [x]) := by
  have e : (r ++ [x]).length = r.length + 1 := by rw [List.length_append]; rfl
  refine ⟨fun j hj => ?_, fun j hj => ?_⟩
  · rw [e] at hj
    by_cases z : j = r.length
    · rw [z, getD_app_last]; exact h1
    · rw [getD_app_left (by omega)]; exact h.1 j (by omega)
  · rw [e] at hj
    by_cases z : j + 1 = r.length
    · rw [z, getD_app_last, getD_app_left (by omega)]
      rcases h2 with h2 | h2
      · rw [h2] at z; cases z
      · have ez : r.length - 1 = j := by omega
        rw [ez] at h2; exact h2
    · rw [getD_app_left (by omega), getD_app_left (by omega)]; exact h.2 j (by omega)
theorem sum_snoc (r : List Int) (x : Int) : (r ++ [x]).sum = r.sum + x := by
  rw [List.sum_append]; simp
theorem row_len {r : List Int} (h : IsRow r) : (r.length : Int) ≤ r.sum := by
  have h' := (isRow_iff.mp h).1
  clear h
  induction r with
  | nil => exact Int.le_refl _
  | cons x r ih =>
    have a := ih fun y hy => h' y (List.mem_cons_of_mem _ hy)
    have b := h' x (List.mem_cons_self ..)
    rw [List.sum_cons, List.length_cons]
    omega


theorem ext_getD {xs ys : List Int} (h : xs.length = ys.length) (e : ∀ j : Nat, j < xs.length → xs.getD j 0 = ys.getD j 0) : xs = ys := by
  refine List.ext_getElem h fun j h1 h2 => ?_
  have := e j h1
  rw [List.getD_eq_getElem?_getD, List.getD_eq_getElem?_getD, List.getElem?_eq_getElem h1, List.getElem?_eq_getElem h2] at this
  exact this
def spDrawn (K : PySem.W.Frag) : Sp := fun vs H Q _ => ∃ (a : Addr) (ns : List Int) (k m : Int), vs = [.ref a, .int k, .int m] ∧ SqL K H a (ns.map V.int) ∧ ns.length ≤ 63 ∧ 0 ≤ k ∧ k ≤ 1000000 ∧ 0 < m ∧ ∀ d : Int, 0 ≤ d → d < m → Q (.int d) H
def spRowBy (K : PySem.W.Frag) : Sp := fun vs H Q _ => ∃ (a : Addr) (ns : List Int) (k m : Int), vs = [.ref a, .int k, .int m] ∧ SqL K H a (ns.map V.int) ∧ ns.length ≤ 63 ∧ 0 ≤ k ∧ k ≤ 1000 ∧ 0 < m ∧ m ≤ 60 ∧
  ∀ (p : Addr) (r : List Int) (H' : Hp), Same H H' → H p = none → IsRow r → r.sum ≤ m → (r.length : Int) ≤ m → H' p = some (.lst (r.map V.int)) → Q (.ref p) H'

def spWhole : Sp := fun vs H Q _ => ∃ i : Int, vs = [.int i] ∧ Q (.bl true) H
def spLRow (K : PySem.W.Frag) : Sp := fun vs H Q _ => ∃ (p p2 : Addr) (xs ys : List Int), vs = [.ref p, .ref p2] ∧ H p = some (.lst (xs.map V.int)) ∧ SqL K H p2 (ys.map V.int) ∧ xs.length ≤ 100000 ∧ ys.length ≤ 100000 ∧ Q (.bl (decide (xs = ys))) H
theorem kit_int_int {K : PySem.W.Frag} : PySem.W.kitOne K (.type "int") (.type "int") = some true := rfl
theorem kit_list_list {K : PySem.W.Frag} : PySem.W.kitOne K (.type "list") (.type "list") = some true := rfl
theorem kit_int_bool {K : PySem.W.Frag} : PySem.W.kitOne K (.type "int") (.type "bool") = some false := by
  unfold PySem.W.kitOne
  rw [if_neg (by decide)]
  with_unfolding_all rfl

def spLaw (K : PySem.W.Frag) : Sp := fun vs H Q _ => ∃ (a : Addr) (ns : List Int), vs = [.ref a] ∧ SqL K H a (ns.map V.int) ∧ ns.length ≤ 63 ∧ ∀ H', Q (.bl true) H'

theorem isRow_pair {r : List Int} (h : IsRow r) : r.Pairwise (fun a b => b ≤ a) := (isRow_iff.mp h).2
theorem isRow_pos {r : List Int} (h : IsRow r) : ∀ x ∈ r, 1 ≤ x := (isRow_iff.mp h).1
theorem getD_snoc_left {ps : List Addr} {p : Addr} {j : Nat} (h : j < ps.length) : (ps ++ [p]).getD j 0 = ps.getD j 0 := by
  rw [List.getD_eq_getElem?_getD, List.getD_eq_getElem?_getD, List.getElem?_append_left h]
theorem getD_snoc_last {ps : List Addr} {p : Addr} : (ps ++ [p]).getD ps.length 0 = p := by
  rw [List.getD_eq_getElem?_getD, List.getElem?_append_right (Nat.le_refl _), Nat.sub_self]; rfl
theorem getD_memA {ps : List Addr} {j : Nat} (h : j < ps.length) : ps.getD j 0 ∈ ps := by
  rw [List.getD_eq_getElem?_getD, List.getElem?_eq_getElem h]
  exact List.getElem_mem h
theorem memA_get {ps : List Addr} {x : Addr} (h : x ∈ ps) : ∃ j : Nat, j < ps.length ∧ ps.getD j 0 = x := by
  obtain ⟨j, hj, e⟩ := List.getElem_of_mem h
  exact ⟨j, hj, by rw [List.getD_eq_getElem?_getD, List.getElem?_eq_getElem hj]; exact e⟩
structure Made (H H2 : Hp) (D : Addr) (ps : List Addr) (i : Nat) (f : Nat → List Int) : Prop where
  len : ps.length = i
  fresh : ∀ x ∈ ps, H x = none
  nd : ps.Nodup
  np : D ∉ ps
  each : ∀ k : Nat, k < i → H2 (ps.getD k 0) = some (.lst ((f k).map V.int))
theorem Made.zero {H H2 : Hp} {D : Addr} {f : Nat → List Int} : Made H H2 D [] 0 f := ⟨rfl, fun _ h => absurd h (by simp), List.nodup_nil, by simp, fun k hk => absurd hk (Nat.not_lt_zero k)⟩
theorem Made.snoc {H H2 H3 : Hp} {D p : Addr} {ps : List Addr} {i : Nat} {f : Nat → List Int} {o : HO} (M : Made H H2 D ps i f) (s2 : Same H H2) (s3 : Same H2 H3) (hp : H2 p = none) (hp3 : H3 p = some (.lst ((f i).map V.int))) (hD : ∃ o, H2 D = some o) : Made H (upd H3 D o) D (ps ++ [p]) (i + 1) f := by
  obtain ⟨oD, hD⟩ := hD
  have hpD : p ≠ D := (ne_of_none hD hp).symm
  have hpp : p ∉ ps := fun z => by
    obtain ⟨j, hj, e⟩ := memA_get z
    have := M.each j (by rw [← M.len]; exact hj)
    rw [e, hp] at this
    cases this
  refine ⟨by rw [List.length_append, M.len]; rfl, fun x hx => ?_, ?_, fun z => ?_, fun k hk => ?_⟩
  · rcases List.mem_append.mp hx with z | z
    · exact M.fresh x z
    · have e : x = p := by simpa using z
      rw [e]; exact s2.free hp
  · rw [List.nodup_append]
    refine ⟨M.nd, by simp, fun x hx y hy => ?_⟩
    have e : y = p := by simpa using hy
    rw [e]
    rintro rfl
    exact hpp hx
  · rcases List.mem_append.mp z with z | z
    · exact M.np z
    · exact hpD (by simpa using z : D = p).symm
  · by_cases z : k = i
    · subst z
      have e : (ps ++ [p]).getD k 0 = p := by rw [← M.len]; exact getD_snoc_last
      rw [e, upd_ne hpD]
      exact hp3
    · have hk' : k < ps.length := by rw [M.len]; omega
      rw [getD_snoc_left hk', upd_ne (fun z' => M.np (by rw [← z']; exact getD_memA hk'))]
      exact s3 _ _ (M.each k (by omega))

def gapsM (r : List Int) (m : Nat) : List Int := List.replicate (m - r.length) 0 ++ r.reverse
def beadsM (r : List Int) (m : Nat) : List Int := (List.range m).map fun (i : Nat) => (i : Int) + (gapsM r m).getD i 0
theorem gaps_len {r : List Int} {m : Nat} (h : r.length ≤ m) : (gapsM r m).length = m := by
  unfold gapsM; rw [List.length_append, List.length_replicate, List.length_reverse]; omega
theorem beads_len (r : List Int) (m : Nat) : (beadsM r m).length = m := by unfold beadsM; rw [List.length_map, List.length_range]
theorem beads_at {r : List Int} {m i : Nat} (h : i < m) : (beadsM r m).getD i 0 = (i : Int) + (gapsM r m).getD i 0 := by
  unfold beadsM
  rw [List.getD_eq_getElem?_getD, List.getElem?_map, List.getElem?_range h]
  rfl
theorem gaps_up {r : List Int} {m : Nat} (h0 : ∀ x ∈ r, 0 ≤ x) (hp : r.Pairwise (fun a b => b ≤ a)) : (gapsM r m).Pairwise (· ≤ ·) := by
  unfold gapsM
  rw [List.pairwise_append]
  refine ⟨?_, by rw [List.pairwise_reverse]; exact hp, fun a ha b hb => ?_⟩
  · rw [List.pairwise_iff_getElem]
    intro i j hi hj _
    rw [List.getElem_replicate, List.getElem_replicate]
    exact Int.le_refl _
  · rw [(List.mem_replicate.mp ha).2]
    exact h0 b (List.mem_reverse.mp hb)
def gAt (G : List Int) (i : Nat) : Int := if i = 0 then 0 else G.getD (i - 1) 0
def Rise (ns : List Int) : Prop := ∀ j : Nat, j < ns.length → (if j = 0 then (-1 : Int) else ns.getD (j - 1) 0) < ns.getD j 0
def spCheck (K : PySem.W.Frag) : Sp := fun vs H Q _ => ∃ (a : Addr) (ns : List Int), vs = [.ref a] ∧ SqL K H a (ns.map V.int) ∧ Rise ns ∧ Q .non H
def spBeads (K : PySem.W.Frag) : Sp := fun vs H Q _ => ∃ (a : Addr) (r : List Int) (m : Int), vs = [.ref a, .int m] ∧ SqL K H a (r.map V.int) ∧ (r.length : Int) ≤ m ∧ m ≤ 1000 ∧
  ∀ (p : Addr) (H' : Hp), Same H H' → H p = none → H' p = some (.lst ((beadsM r m.toNat).map V.int)) → Q (.ref p) H'
theorem rise_pos {ns : List Int} (h : Rise ns) : ∀ j : Nat, j < ns.length → 0 ≤ ns.getD j 0
  | 0, hj => by have := h 0 hj; rw [if_pos rfl] at this; omega
  | j + 1, hj => by
    have a := rise_pos h j (by omega)
    have b := h (j + 1) hj
    rw [if_neg (by omega)] at b
    have e : j + 1 - 1 = j := rfl
    rw [e] at b
    omega
theorem beads_rise {r : List Int} {m : Nat} (h0 : ∀ x ∈ r, 0 ≤ x) (hp : r.Pairwise (fun a b => b ≤ a)) (hm : r.length ≤ m) : Rise (beadsM r m) := fun j hj => by
  rw [beads_len] at hj
  have hl := gaps_len hm
  have hup := gaps_up (m := m) h0 hp
  rw [List.pairwise_iff_getElem] at hup
  have ge : ∀ k (hk : k < (gapsM r m).length), (gapsM r m).getD k 0 = (gapsM r m)[k] := fun k hk => by rw [List.getD_eq_getElem?_getD, List.getElem?_eq_getElem hk]; rfl
  rw [beads_at hj]
  by_cases z : j = 0
  · subst z
    rw [if_pos rfl]
    have hmem : (gapsM r m).getD 0 0 ∈ gapsM r m := by rw [ge 0 (by omega)]; exact List.getElem_mem _
    have : 0 ≤ (gapsM r m).getD 0 0 := by
      have hm2 := hmem
      unfold gapsM at hm2
      rcases List.mem_append.mp hm2 with y | y
      · have := (List.mem_replicate.mp y).2
        unfold gapsM; omega
      · exact h0 _ (List.mem_reverse.mp y)
    omega
  · rw [if_neg z, beads_at (by omega), ge j (by omega), ge (j - 1) (by omega)]
    have := hup (j - 1) j (by omega) (by omega) (by omega)
    omega

def gapsOf (ns : List Int) : List Int := (List.range ns.length).map fun (k : Nat) => ns.getD k 0 - (k : Int)
def rowOfM (ns : List Int) : List Int := (gapsOf ns).reverse.filter fun g => decide (0 < g)
theorem gapsOf_len (ns : List Int) : (gapsOf ns).length = ns.length := by unfold gapsOf; rw [List.length_map, List.length_range]
theorem gapsOf_at {ns : List Int} {i : Nat} (h : i < ns.length) : (gapsOf ns).getD i 0 = ns.getD i 0 - (i : Int) := by
  unfold gapsOf
  rw [List.getD_eq_getElem?_getD, List.getElem?_map, List.getElem?_range h]
  rfl
theorem gapsOf_beads {r : List Int} {m : Nat} (hm : r.length ≤ m) : gapsOf (beadsM r m) = gapsM r m := by
  refine List.ext_getElem (by rw [gapsOf_len, beads_len, gaps_len hm]) fun i a b => ?_
  have hi : i < m := by rw [gapsOf_len, beads_len] at a; exact a
  rw [getD_elem a, getD_elem b, gapsOf_at (by rw [beads_len]; exact hi), beads_at hi]
  omega
theorem rowOf_beads {r : List Int} {m : Nat} (h1 : ∀ x ∈ r, 1 ≤ x) (hm : r.length ≤ m) : rowOfM (beadsM r m) = r := by
  unfold rowOfM
  rw [gapsOf_beads hm]
  unfold gapsM
  rw [List.reverse_append, List.reverse_reverse, List.filter_append]
  have e1 : r.filter (fun g => decide (0 < g)) = r := List.filter_eq_self.mpr fun x hx => decide_eq_true (by have := h1 x hx; omega)
  have e2 : (List.replicate (m - r.length) (0 : Int)).reverse.filter (fun g => decide (0 < g)) = [] := List.filter_eq_nil_iff.mpr fun x hx => by
    have := (List.mem_replicate.mp (List.mem_reverse.mp hx)).2
    rw [this]; decide
  rw [e1, e2, List.append_nil]
def spRowOf (K : PySem.W.Frag) : Sp := fun vs H Q _ => ∃ (a : Addr) (ns : List Int), vs = [.ref a] ∧ SqL K H a (ns.map V.int) ∧ Rise ns ∧ ns.length ≤ 1000 ∧
  ∀ (p : Addr) (H' : Hp), Same H H' → H p = none → H' p = some (.lst ((rowOfM ns).map V.int)) → Q (.ref p) H'

def BadRods (r : Int) : Prop := r < 1 ∨ 8 < r
def spCheckRods (C : Addr) : Sp := fun vs H Q E => ∃ r : Int, vs = [.int r] ∧ (BadRods r → E (.ref C) none H) ∧ (1 ≤ r → r ≤ 8 → Q .non H)

theorem getA_of {ps : List Addr} {j : Nat} (h : j < ps.length) : ps[j]? = some (ps.getD j 0) := by
  rw [List.getD_eq_getElem?_getD, List.getElem?_eq_getElem h]; rfl
def shareM (r : List Int) (t : Int) : Int := ((r.length : Int) + t - 1) / t
theorem share_mul (r : List Int) {t : Int} (h : 1 ≤ t) : (r.length : Int) ≤ shareM r t * t ∧ shareM r t * t ≤ (r.length : Int) + t - 1 := by
  unfold shareM
  have a := Int.emod_add_mul_ediv ((r.length : Int) + t - 1) t
  have b := Int.emod_nonneg ((r.length : Int) + t - 1) (b := t) (by omega)
  have c := Int.emod_lt_of_pos ((r.length : Int) + t - 1) (b := t) (by omega)
  rw [Int.mul_comm] at a
  omega
def hOn (ps : List Int) (t k : Int) : List Int := (ps.filter fun p => decide (p % t = k)).map fun p => p / t
theorem hOn_succ {ps : List Int} {t k : Int} {i : Nat} (h : i < ps.length) : hOn (ps.take (i + 1)) t k = hOn (ps.take i) t k ++ (if ps.getD i 0 % t = k then [ps.getD i 0 / t] else []) := by
  unfold hOn
  rw [take_succ_filter (fun p => decide (p % t = k)) ps i (ps.getD i 0) (getD_of h), List.map_append]
  by_cases c : ps.getD i 0 % t = k
  · rw [if_pos c, if_pos (decide_eq_true c)]; rfl
  · rw [if_neg c, if_neg (by rw [decide_eq_false c]; decide)]; rfl
theorem hOn_len (ps : List Int) (t k : Int) : (hOn ps t k).length ≤ ps.length := by
  unfold hOn
  rw [List.length_map]
  exact List.length_filter_le _ _
def partedM (r : List Int) (t : Int) : List (List Int) := (List.range t.toNat).map fun (k : Nat) => hOn (beadsM r (shareM r t * t).toNat) t (0 + (k : Int))
theorem parted_len (r : List Int) (t : Int) : (partedM r t).length = t.toNat := by unfold partedM; rw [List.length_map, List.length_range]
theorem parted_at {r : List Int} {t : Int} {k : Nat} (h : k < t.toNat) : (partedM r t).getD k [] = hOn (beadsM r (shareM r t * t).toNat) t (0 + (k : Int)) := by
  unfold partedM
  rw [List.getD_eq_getElem?_getD, List.getElem?_map, List.getElem?_range h]
  rfl
def chargesM (r : List Int) (t : Int) : List Int := (partedM r t).map fun h => (h.length : Int) - shareM r t
theorem charges_len (r : List Int) (t : Int) : (chargesM r t).length = t.toNat := by unfold chargesM; rw [List.length_map, parted_len]
def maxI : List Int → Int
  | [] => 0
  | [a] => a
  | a :: b :: r => max a (maxI (b :: r))
theorem maxI_mem : ∀ {l : List Int}, l ≠ [] → maxI l ∈ l
  | [], h => absurd rfl h
  | [a], _ => List.mem_cons_self ..
  | a :: b :: r, _ => by
    have := maxI_mem (l := b :: r) (by simp)
    unfold maxI
    rcases Int.le_total a (maxI (b :: r)) with z | z
    · rw [Int.max_eq_right z]; exact List.mem_cons_of_mem _ this
    · rw [Int.max_eq_left z]; exact List.mem_cons_self ..
theorem maxI_ge : ∀ {l : List Int} (x : Int), x ∈ l → x ≤ maxI l
  | [], x, h => absurd h (by simp)
  | [a], x, h => by
    have : x = a := by simpa using h
    rw [this]; exact Int.le_refl _
  | a :: b :: r, x, h => by
    unfold maxI
    rcases List.mem_cons.mp h with z | z
    · rw [z]; exact Int.le_max_left ..
    · exact Int.le_trans (maxI_ge x z) (Int.le_max_right ..)
theorem maxI_one {l : List Int} {M : Int} (h : M ∈ l) (hb : ∀ a ∈ l, a ≤ M) : M = maxI l := by
  have a := maxI_ge M h
  have b := hb _ (maxI_mem (l := l) (by intro z; rw [z] at h; cases h))
  omega
def lacksM (ns : List Int) (rows : List (List Int)) : List Int := (List.range rows.length).map fun (k : Nat) => ((rows.getD k []).length : Int) - ns.getD k 0
def leastM (ns : List Int) (rows : List (List Int)) : Int := maxI (lacksM ns rows)
def placesTo (ns : List Int) (rows : List (List Int)) (l : Int) (i : Nat) : List Int := ((List.range i).map fun (k : Nat) => (beadsM (rows.getD k []) (l + ns.getD k 0).toNat).map fun h => h * (rows.length : Int) + (k : Int)).flatten
def insI (x : Int) : List Int → List Int
  | [] => [x]
  | y :: r => if x ≤ y then x :: y :: r else y :: insI x r
def sortI : List Int → List Int
  | [] => []
  | x :: r => insI x (sortI r)
theorem insI_perm (x : Int) : ∀ l : List Int, (insI x l).Perm (x :: l)
  | [] => List.Perm.refl _
  | y :: r => by
    unfold insI
    split
    · exact List.Perm.refl _
    · exact ((insI_perm x r).cons y).trans (List.Perm.swap x y r)
theorem sortI_perm : ∀ l : List Int, (sortI l).Perm l
  | [] => List.Perm.refl _
  | x :: r => by
    unfold sortI
    exact (insI_perm x _).trans ((sortI_perm r).cons x)
theorem insI_up (x : Int) : ∀ {l : List Int}, l.Pairwise (· ≤ ·) → (insI x l).Pairwise (· ≤ ·)
  | [], _ => List.pairwise_singleton ..
  | y :: r, h => by
    have a := List.pairwise_cons.mp h
    unfold insI
    split
    · next c =>
      refine List.pairwise_cons.mpr ⟨fun z hz => ?_, h⟩
      rcases List.mem_cons.mp hz with e | e
      · rw [e]; exact c
      · exact Int.le_trans c (a.1 z e)
    · next c =>
      refine List.pairwise_cons.mpr ⟨fun z hz => ?_, insI_up x a.2⟩
      rcases List.mem_cons.mp ((insI_perm x r).subset hz) with e | e
      · rw [e]; omega
      · exact a.1 z e
theorem sortI_up : ∀ l : List Int, (sortI l).Pairwise (· ≤ ·)
  | [] => List.Pairwise.nil
  | x :: r => by unfold sortI; exact insI_up x (sortI_up r)
def placesM (ns : List Int) (rows : List (List Int)) : List Int := placesTo ns rows (leastM ns rows) rows.length
def laidM (ns : List Int) (rows : List (List Int)) : List Int := rowOfM (sortI (placesM ns rows))
structure LaidOk (ns : List Int) (rows : List (List Int)) : Prop where
  len : rows.length = ns.length
  one : 1 ≤ rows.length
  eight : rows.length ≤ 8
  few : ∀ x ∈ ns, leastM ns rows + x ≤ 100
  size : (placesM ns rows).length < 128
  rise : Rise (sortI (placesM ns rows))
def empties (n : Nat) : List (List Int) := List.replicate n []
def coreOfM (ns : List Int) : List Int := laidM ns (empties ns.length)
def coreM (r : List Int) (t : Int) : List Int := coreOfM (chargesM r t)
def spShare (K : PySem.W.Frag) : Sp := fun vs H Q _ => ∃ (a : Addr) (r : List Int) (t : Int), vs = [.ref a, .int t] ∧ SqL K H a (r.map V.int) ∧ 1 ≤ t ∧ t ≤ 8 ∧ Q (.int (shareM r t)) H
def spHOn (K : PySem.W.Frag) : Sp := fun vs H Q _ => ∃ (a : Addr) (ns : List Int) (t k : Int), vs = [.ref a, .int t, .int k] ∧ SqL K H a (ns.map V.int) ∧ 1 ≤ t ∧ t ≤ 8 ∧ ns.length ≤ 1000 ∧
  ∀ (p : Addr) (H' : Hp), Same H H' → H p = none → H' p = some (.lst ((hOn ns t k).map V.int)) → Q (.ref p) H'
def spParted (K : PySem.W.Frag) : Sp := fun vs H Q _ => ∃ (a : Addr) (r : List Int) (t : Int), vs = [.ref a, .int t] ∧ SqL K H a (r.map V.int) ∧ 1 ≤ t ∧ t ≤ 8 ∧ r.length ≤ 100 ∧
  ∀ (p : Addr) (ps : List Addr) (H' : Hp), Same H H' → H p = none → LL H H' p ps (partedM r t) → Q (.ref p) H'
def spChargesX (K : PySem.W.Frag) (C : Addr) : Sp := fun vs H Q E => ∃ (a : Addr) (r : List Int) (t : Int), vs = [.ref a, .int t] ∧ SqL K H a (r.map V.int) ∧ r.length ≤ 100 ∧ (BadRods t → E (.ref C) none H) ∧
  (1 ≤ t → t ≤ 8 → ∀ (p : Addr) (H' : Hp), Same H H' → H p = none → H' p = some (.lst ((chargesM r t).map V.int)) → Q (.ref p) H')
def spLaid (K : PySem.W.Frag) : Sp := fun vs H Q _ => ∃ (a b : Addr) (ns : List Int) (qs : List Addr) (rows : List (List Int)), vs = [.ref a, .ref b] ∧ SqL K H a (ns.map V.int) ∧ LLr H b qs rows ∧ LaidOk ns rows ∧
  ∀ (p : Addr) (H' : Hp), Same H H' → H p = none → H' p = some (.lst ((laidM ns rows).map V.int)) → Q (.ref p) H'
def spCoreOfX (K : PySem.W.Frag) (C C2 : Addr) : Sp := fun vs H Q E => ∃ (a : Addr) (ns : List Int), vs = [.ref a] ∧ SqL K H a (ns.map V.int) ∧ ns.length ≤ 100 ∧ (∀ x ∈ ns, -1000 ≤ x ∧ x ≤ 1000) ∧ (BadRods (ns.length : Int) → E (.ref C) none H) ∧
  (1 ≤ ns.length → ns.length ≤ 8 → ns.sum ≠ 0 → E (.ref C2) none H) ∧
  (1 ≤ ns.length → ns.length ≤ 8 → ns.sum = 0 → LaidOk ns (empties ns.length) ∧ ∀ (p : Addr) (H' : Hp), Same H H' → H p = none → H' p = some (.lst ((coreOfM ns).map V.int)) → Q (.ref p) H')
structure CoreOk (r : List Int) (t : Int) : Prop where
  few : ∀ x ∈ chargesM r t, -1000 ≤ x ∧ x ≤ 1000
  sum : (chargesM r t).sum = 0
  laid : LaidOk (chargesM r t) (empties t.toNat)
def spCoreX (K : PySem.W.Frag) (C : Addr) : Sp := fun vs H Q E => ∃ (a : Addr) (r : List Int) (t : Int), vs = [.ref a, .int t] ∧ SqL K H a (r.map V.int) ∧ r.length ≤ 100 ∧ (BadRods t → E (.ref C) none H) ∧
  (1 ≤ t → t ≤ 8 → CoreOk r t ∧ ∀ (p : Addr) (H' : Hp), Same H H' → H p = none → H' p = some (.lst ((coreM r t).map V.int)) → Q (.ref p) H')
def spIsCore (K : PySem.W.Frag) : Sp := fun vs H Q _ => ∃ (a : Addr) (r : List Int) (t : Int), vs = [.ref a, .int t] ∧ SqL K H a (r.map V.int) ∧ r.length ≤ 100 ∧ 1 ≤ t ∧ t ≤ 8 ∧ CoreOk r t ∧
  ∀ H' : Hp, Same H H' → Q (.bl (decide (coreM r t = r))) H'
def spJoinedX (K : PySem.W.Frag) (C C2 C3 : Addr) : Sp := fun vs H Q E => ∃ (a b : Addr) (r : List Int) (qs : List Addr) (rows : List (List Int)) (t : Int), vs = [.ref a, .ref b, .int t] ∧ SqL K H a (r.map V.int) ∧ LLr H b qs rows ∧ r.length ≤ 100 ∧ (BadRods t → E (.ref C) none H) ∧
  (1 ≤ t → t ≤ 8 → CoreOk r t ∧ (coreM r t ≠ r → ∀ H', Same H H' → E (.ref C2) none H') ∧ (coreM r t = r → (rows.length : Int) ≠ t → ∀ H', Same H H' → E (.ref C3) none H') ∧
    (coreM r t = r → (rows.length : Int) = t → LaidOk (chargesM r t) rows ∧ ∀ (p : Addr) (H' : Hp), Same H H' → H p = none → H' p = some (.lst ((laidM (chargesM r t) rows).map V.int)) → Q (.ref p) H'))

theorem lacks_len (ns : List Int) (rows : List (List Int)) : (lacksM ns rows).length = rows.length := by unfold lacksM; rw [List.length_map, List.length_range]
theorem lacks_le {ns : List Int} {rows : List (List Int)} {k : Nat} (h : k < rows.length) : ((rows.getD k []).length : Int) ≤ leastM ns rows + ns.getD k 0 := by
  have := maxI_ge (l := lacksM ns rows) (((rows.getD k []).length : Int) - ns.getD k 0) (List.mem_map.mpr ⟨k, List.mem_range.mpr h, rfl⟩)
  unfold leastM
  omega
theorem placesTo_succ (ns : List Int) (rows : List (List Int)) (l : Int) (i : Nat) : placesTo ns rows l (i + 1) = placesTo ns rows l i ++ (beadsM (rows.getD i []) (l + ns.getD i 0).toNat).map fun h => h * (rows.length : Int) + (i : Int) := by
  unfold placesTo
  rw [List.range_succ, List.map_append, List.flatten_append]
  simp only [List.map_cons, List.map_nil, List.flatten_cons, List.flatten_nil, List.append_nil]
theorem placesTo_len {ns : List Int} {rows : List (List Int)} {l : Int} (h : ∀ k : Nat, k < rows.length → l + ns.getD k 0 ≤ 100) : ∀ i : Nat, i ≤ rows.length → (placesTo ns rows l i).length ≤ 100 * i
  | 0, _ => Nat.le_refl _
  | i + 1, hi => by
    have a := placesTo_len h i (by omega)
    have b := h i (by omega)
    rw [placesTo_succ, List.length_append, List.length_map, beads_len]
    omega

abbrev Up (l : List Int) : Prop := l.Pairwise (· < ·)
theorem up_nodup {l : List Int} (h : Up l) : l.Nodup := List.nodup_iff_pairwise_ne.mpr (h.imp fun h => Int.ne_of_lt h)
theorem up_le {l : List Int} (h : Up l) : l.Pairwise (· ≤ ·) := h.imp fun h => Int.le_of_lt h
theorem up_eq {a b : List Int} (ha : Up a) (hb : Up b) (h : ∀ x, x ∈ a ↔ x ∈ b) : a = b :=
  sort_one ((List.perm_ext_iff_of_nodup (up_nodup ha) (up_nodup hb)).mpr h) (up_le ha) (up_le hb)
theorem sort_strict {l : List Int} (h : l.Nodup) : Up (sortI l) := by
  have h1 := sortI_up l
  have h2 := List.nodup_iff_pairwise_ne.mp (((sortI_perm l).nodup_iff).mpr h)
  exact (h1.and h2).imp fun ⟨a, b⟩ => by omega
theorem up_rise {l : List Int} (h : Up l) (h0 : ∀ x ∈ l, 0 ≤ x) : Rise l := fun j hj => by
  by_cases z : j = 0
  · subst z
    rw [if_pos rfl]
    have := h0 (l.getD 0 0) (by rw [← getD_elem hj]; exact List.getElem_mem _)
    omega
  · rw [if_neg z]
    have := List.pairwise_iff_getElem.mp h (j - 1) j (by omega) hj (by omega)
    rw [getD_elem, getD_elem] at this
    exact this
theorem rise_lt {l : List Int} (h : Rise l) {i : Nat} : ∀ d : Nat, i + d + 1 < l.length → l.getD i 0 < l.getD (i + d + 1) 0
  | 0, hd => by
    have := h (i + 1) hd
    rw [if_neg (by omega)] at this
    exact this
  | d + 1, hd => by
    have a := rise_lt h (i := i) d (by omega)
    have b := h (i + (d + 1) + 1) hd
    rw [if_neg (by omega)] at b
    have e : i + (d + 1) + 1 - 1 = i + d + 1 := by omega
    rw [e] at b
    omega
theorem rise_up {l : List Int} (h : Rise l) : Up l := List.pairwise_iff_getElem.mpr fun i j hi hj hij => by
  rw [getD_elem, getD_elem]
  have := rise_lt h (i := i) (j - i - 1) (by omega)
  have e : i + (j - i - 1) + 1 = j := by omega
  rw [e] at this
  exact this
def rngI (d : Nat) : List Int := (List.range d).map fun (k : Nat) => (k : Int)
theorem rng_len (d : Nat) : (rngI d).length = d := by unfold rngI; rw [List.length_map, List.length_range]
theorem mem_rng {d : Nat} {x : Int} : x ∈ rngI d ↔ 0 ≤ x ∧ x < (d : Int) := by
  unfold rngI
  rw [List.mem_map]
  constructor
  · rintro ⟨k, hk, rfl⟩
    have := List.mem_range.mp hk
    omega
  · rintro ⟨a, b⟩
    exact ⟨x.toNat, List.mem_range.mpr (by omega), by omega⟩
theorem rng_up (d : Nat) : Up (rngI d) := by
  unfold rngI
  rw [Up, List.pairwise_map]
  exact List.pairwise_lt_range.imp fun h => by omega
theorem rng_at {d i : Nat} (h : i < d) : (rngI d).getD i 0 = (i : Int) := by
  unfold rngI
  rw [List.getD_eq_getElem?_getD, List.getElem?_map, List.getElem?_range h]
  rfl
def shiftI (d : Nat) (l : List Int) : List Int := rngI d ++ l.map fun x => x + (d : Int)
theorem shift_len (d : Nat) (l : List Int) : (shiftI d l).length = d + l.length := by unfold shiftI; rw [List.length_append, List.length_map, rng_len]
theorem shift_up {d : Nat} {l : List Int} (h : Up l) (h0 : ∀ x ∈ l, 0 ≤ x) : Up (shiftI d l) := by
  unfold shiftI
  refine List.pairwise_append.mpr ⟨rng_up d, List.pairwise_map.mpr (h.imp fun h => by omega), fun a ha b hb => ?_⟩
  obtain ⟨y, hy, rfl⟩ := List.mem_map.mp hb
  have := mem_rng.mp ha
  have := h0 y hy
  omega
theorem mem_shift {d : Nat} {l : List Int} {x : Int} : x ∈ shiftI d l ↔ (0 ≤ x ∧ x < (d : Int)) ∨ x - (d : Int) ∈ l := by
  unfold shiftI
  rw [List.mem_append, mem_rng, List.mem_map]
  constructor
  · rintro (h | ⟨y, hy, rfl⟩)
    · exact .inl h
    · refine .inr ?_
      have e : y + (d : Int) - d = y := by omega
      rw [e]; exact hy
  · rintro (h | h)
    · exact .inl h
    · exact .inr ⟨_, h, by omega⟩
theorem shift_lo {d i : Nat} {l : List Int} (h : i < d) : (shiftI d l).getD i 0 = (i : Int) := by
  unfold shiftI
  rw [List.getD_eq_getElem?_getD, List.getElem?_append_left (by rw [rng_len]; exact h), ← List.getD_eq_getElem?_getD, rng_at h]
theorem shift_hi {d i : Nat} {l : List Int} (h : d ≤ i) (h2 : i < d + l.length) : (shiftI d l).getD i 0 = l.getD (i - d) 0 + (d : Int) := by
  unfold shiftI
  rw [List.getD_eq_getElem?_getD, List.getElem?_append_right (by rw [rng_len]; exact h), rng_len, List.getElem?_map, getD_of (show i - d < l.length by omega)]
  rfl
theorem rep_at {n i : Nat} : (List.replicate n (0 : Int)).getD i 0 = 0 := by
  rw [List.getD_eq_getElem?_getD, List.getElem?_replicate]
  split <;> rfl
theorem getD_appL {a b : List Int} {i : Nat} (h : i < a.length) : (a ++ b).getD i 0 = a.getD i 0 := by
  rw [List.getD_eq_getElem?_getD, List.getElem?_append_left h, ← List.getD_eq_getElem?_getD]
theorem getD_appR {a b : List Int} {i : Nat} (h : a.length ≤ i) : (a ++ b).getD i 0 = b.getD (i - a.length) 0 := by
  rw [List.getD_eq_getElem?_getD, List.getElem?_append_right h, ← List.getD_eq_getElem?_getD]
theorem gaps_shift (d : Nat) (l : List Int) : gapsOf (shiftI d l) = List.replicate d 0 ++ gapsOf l := by
  refine List.ext_getElem (by rw [gapsOf_len, shift_len, List.length_append, List.length_replicate, gapsOf_len]) fun i a b => ?_
  have hi : i < d + l.length := by rw [gapsOf_len, shift_len] at a; exact a
  rw [getD_elem a, getD_elem b, gapsOf_at (by rw [shift_len]; exact hi)]
  by_cases z : i < d
  · rw [shift_lo z, getD_appL (by rw [List.length_replicate]; exact z), rep_at]
    omega
  · rw [shift_hi (by omega) hi, getD_appR (by rw [List.length_replicate]; omega), List.length_replicate, gapsOf_at (by omega)]
    omega
theorem rowOf_shift (d : Nat) (l : List Int) : rowOfM (shiftI d l) = rowOfM l := by
  unfold rowOfM
  rw [gaps_shift, List.reverse_append, List.filter_append]
  have e2 : (List.replicate d (0 : Int)).reverse.filter (fun g => decide (0 < g)) = [] := List.filter_eq_nil_iff.mpr fun x hx => by
    have := (List.mem_replicate.mp (List.mem_reverse.mp hx)).2
    rw [this]; decide
  rw [e2, List.append_nil]
def rodP (t s n : Int) (k : Nat) : List Int := (List.range (s + n).toNat).map fun (h : Nat) => (h : Int) * t + (k : Int)
def PL (ns : List Int) (t s : Int) (i : Nat) : List Int := ((List.range i).map fun (k : Nat) => rodP t s (ns.getD k 0) k).flatten
theorem PL_succ (ns : List Int) (t s : Int) (i : Nat) : PL ns t s (i + 1) = PL ns t s i ++ rodP t s (ns.getD i 0) i := by
  unfold PL
  rw [List.range_succ, List.map_append, List.flatten_append]
  simp only [List.map_cons, List.map_nil, List.flatten_cons, List.flatten_nil, List.append_nil]
theorem rod_len (t s n : Int) (k : Nat) : (rodP t s n k).length = (s + n).toNat := by unfold rodP; rw [List.length_map, List.length_range]
theorem mem_rod {t s n x : Int} {k : Nat} : x ∈ rodP t s n k ↔ ∃ h : Nat, (h : Int) < s + n ∧ x = (h : Int) * t + (k : Int) := by
  unfold rodP
  rw [List.mem_map]
  constructor
  · rintro ⟨h, hh, rfl⟩
    have := List.mem_range.mp hh
    exact ⟨h, by omega, rfl⟩
  · rintro ⟨h, hh, rfl⟩
    exact ⟨h, List.mem_range.mpr (by omega), rfl⟩
theorem rod_up {t s n : Int} {k : Nat} (ht : 1 ≤ t) : Up (rodP t s n k) := by
  unfold rodP
  rw [Up, List.pairwise_map]
  refine List.pairwise_lt_range.imp fun {a b} h => ?_
  have := Int.mul_lt_mul_of_pos_right (show (a : Int) < (b : Int) by omega) (show 0 < t by omega)
  omega
theorem mem_PL {ns : List Int} {t s x : Int} : ∀ {i : Nat}, x ∈ PL ns t s i ↔ ∃ k h : Nat, k < i ∧ (h : Int) < s + ns.getD k 0 ∧ x = (h : Int) * t + (k : Int)
  | 0 => ⟨fun h => (by cases h), fun ⟨k, _, h, _⟩ => absurd h (Nat.not_lt_zero k)⟩
  | i + 1 => by
    rw [PL_succ, List.mem_append, mem_PL (i := i), mem_rod]
    constructor
    · rintro (⟨k, h, a, b, c⟩ | ⟨h, b, c⟩)
      · exact ⟨k, h, by omega, b, c⟩
      · exact ⟨i, h, by omega, b, c⟩
    · rintro ⟨k, h, a, b, c⟩
      by_cases z : k = i
      · subst z; exact .inr ⟨h, b, c⟩
      · exact .inl ⟨k, h, by omega, b, c⟩
theorem hk_mod {t h k : Int} (h0 : 0 ≤ k) (h1 : k < t) : (h * t + k) % t = k ∧ (h * t + k) / t = h := by
  have ht : 0 < t := by omega
  constructor
  · rw [Int.add_comm, Int.add_mul_emod_self_right]
    exact Int.emod_eq_of_lt h0 h1
  · rw [Int.add_comm, Int.add_mul_ediv_right _ _ (by omega), Int.ediv_eq_zero_of_lt h0 h1, Int.zero_add]
theorem PL_nodup {ns : List Int} {t s : Int} : ∀ {i : Nat}, (i : Int) ≤ t → (PL ns t s i).Nodup
  | 0, _ => List.nodup_nil
  | i + 1, h => by
    rw [PL_succ, List.nodup_append]
    refine ⟨PL_nodup (by omega), up_nodup (rod_up (by omega)), fun a ha b hb e => ?_⟩
    obtain ⟨k, x, hk, _, rfl⟩ := mem_PL.mp ha
    obtain ⟨y, _, rfl⟩ := mem_rod.mp hb
    have a1 := (hk_mod (t := t) (h := x) (k := (k : Int)) (by omega) (by omega)).1
    have a2 := (hk_mod (t := t) (h := y) (k := (i : Int)) (by omega) (by omega)).1
    rw [e, a2] at a1
    omega
theorem PL_len {ns : List Int} {t s : Int} : ∀ {i : Nat}, i ≤ ns.length → (∀ k : Nat, k < i → 0 ≤ s + ns.getD k 0) → ((PL ns t s i).length : Int) = s * (i : Int) + (ns.take i).sum
  | 0, _, _ => by show ((0 : Nat) : Int) = s * 0 + 0; omega
  | i + 1, hi, h => by
    have a := PL_len (t := t) (i := i) (by omega) fun k hk => h k (by omega)
    have b := h i (by omega)
    rw [PL_succ, List.length_append, rod_len, List.take_succ_eq_append_getElem (by omega), List.sum_append, getD_elem]
    have e : [ns.getD i 0].sum = ns.getD i 0 := by simp
    have e2 : s * ((i + 1 : Nat) : Int) = s * (i : Int) + s := by grind
    rw [e, e2]
    omega
theorem PL_up {ns : List Int} {t s : Int} {i : Nat} (h : (i : Int) ≤ t) : Up (sortI (PL ns t s i)) := sort_strict (PL_nodup h)
theorem mem_sort {l : List Int} {x : Int} : x ∈ sortI l ↔ x ∈ l := (sortI_perm l).mem_iff
theorem PL_pos {ns : List Int} {t s : Int} {i : Nat} (h : 0 ≤ t) : ∀ x ∈ sortI (PL ns t s i), 0 ≤ x := fun x hx => by
  obtain ⟨k, y, _, _, rfl⟩ := mem_PL.mp (mem_sort.mp hx)
  have := Int.mul_nonneg (show (0 : Int) ≤ (y : Int) by omega) h
  omega
theorem PL_shift {ns : List Int} {t s1 s2 : Int} (ht : t = (ns.length : Int)) (h1 : 1 ≤ t) (hs : s1 ≤ s2) (hn : ∀ k : Nat, k < ns.length → 0 ≤ s1 + ns.getD k 0) :
    sortI (PL ns t s2 ns.length) = shiftI ((s2 - s1) * t).toNat (sortI (PL ns t s1 ns.length)) := by
  refine up_eq (PL_up (by omega)) (shift_up (PL_up (by omega)) (PL_pos (by omega))) fun x => ?_
  have hd := Int.mul_nonneg (show 0 ≤ s2 - s1 by omega) (show 0 ≤ t by omega)
  rw [mem_shift, mem_sort, mem_sort, mem_PL, mem_PL]
  have ed : (((s2 - s1) * t).toNat : Int) = (s2 - s1) * t := by omega
  rw [ed]
  constructor
  · rintro ⟨k, h, hk, hh, rfl⟩
    by_cases z : (h : Int) < s2 - s1
    · refine .inl ⟨?_, ?_⟩
      · have := Int.mul_nonneg (show (0 : Int) ≤ (h : Int) by omega) (show 0 ≤ t by omega)
        omega
      · have a := Int.mul_le_mul_of_nonneg_right (show (h : Int) + 1 ≤ s2 - s1 by omega) (show 0 ≤ t by omega)
        have b : ((h : Int) + 1) * t = (h : Int) * t + t := by grind
        omega
    · refine .inr ⟨k, ((h : Int) - (s2 - s1)).toNat, hk, by omega, ?_⟩
      have e : ((((h : Int) - (s2 - s1)).toNat : Nat) : Int) = (h : Int) - (s2 - s1) := by omega
      rw [e]
      grind
  · rintro (⟨a, b⟩ | ⟨k, h, hk, hh, e⟩)
    · have c := Int.emod_nonneg x (b := t) (by omega)
      have d := Int.emod_lt_of_pos x (b := t) (by omega)
      have f := Int.emod_add_mul_ediv x t
      have g : 0 ≤ x / t := Int.ediv_nonneg a (by omega)
      have g2 : x / t < s2 - s1 := by
        refine Int.lt_of_mul_lt_mul_right (a := t) ?_ (by omega)
        have := Int.mul_comm t (x / t)
        omega
      have hn' := hn (x % t).toNat (by omega)
      refine ⟨(x % t).toNat, (x / t).toNat, by omega, by omega, ?_⟩
      have e1 : (((x / t).toNat : Nat) : Int) = x / t := by omega
      have e2 : (((x % t).toNat : Nat) : Int) = x % t := by omega
      rw [e1, e2, Int.mul_comm]
      omega
    · refine ⟨k, ((h : Int) + (s2 - s1)).toNat, hk, by omega, ?_⟩
      have e1 : ((((h : Int) + (s2 - s1)).toNat : Nat) : Int) = (h : Int) + (s2 - s1) := by omega
      rw [e1]
      grind
theorem PL_rod {ns : List Int} {t s : Int} (ht : t = (ns.length : Int)) {k : Nat} (hk : k < ns.length) : (sortI (PL ns t s ns.length)).filter (fun x => decide (x % t = 0 + (k : Int))) = rodP t s (ns.getD k 0) k := by
  refine up_eq ((PL_up (by omega)).filter _) (rod_up (by omega)) fun x => ?_
  rw [List.mem_filter, mem_sort, mem_PL, mem_rod]
  constructor
  · rintro ⟨⟨j, h, hj, hh, rfl⟩, e⟩
    have a := (hk_mod (t := t) (h := h) (k := (j : Int)) (by omega) (by omega)).1
    have b := of_decide_eq_true e
    rw [a] at b
    obtain rfl : j = k := by omega
    exact ⟨h, hh, rfl⟩
  · rintro ⟨h, hh, rfl⟩
    exact ⟨⟨k, h, hk, hh, rfl⟩, decide_eq_true (by rw [(hk_mod (t := t) (h := h) (k := (k : Int)) (by omega) (by omega)).1]; omega)⟩
theorem rng_rod {t e : Int} (ht : 1 ≤ t) (he : 0 ≤ e) {k : Nat} (hk : (k : Int) < t) : (rngI (e * t).toNat).filter (fun x => decide (x % t = 0 + (k : Int))) = rodP t e 0 k := by
  refine up_eq ((rng_up _).filter _) (rod_up ht) fun x => ?_
  have hd := Int.mul_nonneg he (show 0 ≤ t by omega)
  rw [List.mem_filter, mem_rng, mem_rod]
  constructor
  · rintro ⟨⟨a, b⟩, c⟩
    have c := of_decide_eq_true c
    have f := Int.emod_add_mul_ediv x t
    have g : 0 ≤ x / t := Int.ediv_nonneg a (by omega)
    have g2 : x / t < e := by
      refine Int.lt_of_mul_lt_mul_right (a := t) ?_ (by omega)
      have := Int.mul_comm t (x / t)
      omega
    refine ⟨(x / t).toNat, by omega, ?_⟩
    have e1 : (((x / t).toNat : Nat) : Int) = x / t := by omega
    rw [e1, Int.mul_comm]
    omega
  · rintro ⟨h, hh, rfl⟩
    have a := Int.mul_le_mul_of_nonneg_right (show (h : Int) + 1 ≤ e by omega) (show 0 ≤ t by omega)
    have b : ((h : Int) + 1) * t = (h : Int) * t + t := by grind
    have c := Int.mul_nonneg (show (0 : Int) ≤ (h : Int) by omega) (show 0 ≤ t by omega)
    exact ⟨⟨by omega, by omega⟩, decide_eq_true (by rw [(hk_mod (t := t) (h := h) (k := (k : Int)) (by omega) (by omega)).1]; omega)⟩
theorem pad_pos : ∀ {g : List Int}, (∀ x ∈ g, 0 ≤ x) → g.Pairwise (· ≤ ·) → List.replicate (g.length - (g.filter fun x => decide (0 < x)).length) 0 ++ g.filter (fun x => decide (0 < x)) = g
  | [], _, _ => rfl
  | x :: g, h0, hp => by
    have a := List.pairwise_cons.mp hp
    by_cases z : 0 < x
    · have e : (x :: g).filter (fun x => decide (0 < x)) = x :: g := List.filter_eq_self.mpr fun y hy => decide_eq_true (by
        rcases List.mem_cons.mp hy with e | e
        · omega
        · have := a.1 y e; omega)
      rw [e, Nat.sub_self]
      rfl
    · have hx : x = 0 := by have := h0 x (List.mem_cons_self ..); omega
      have ih := pad_pos (g := g) (fun y hy => h0 y (List.mem_cons_of_mem _ hy)) a.2
      have e : (x :: g).filter (fun x => decide (0 < x)) = g.filter (fun x => decide (0 < x)) := by
        rw [List.filter_cons, if_neg (by rw [decide_eq_false z]; decide)]
      have hl := List.length_filter_le (fun x : Int => decide (0 < x)) g
      rw [e, List.length_cons, show g.length + 1 - (g.filter fun x => decide (0 < x)).length = (g.length - (g.filter fun x => decide (0 < x)).length) + 1 by omega, List.replicate_succ, List.cons_append, ih, hx]
theorem gapsOf_up {l : List Int} (h : Rise l) : (∀ x ∈ gapsOf l, 0 ≤ x) ∧ (gapsOf l).Pairwise (· ≤ ·) := by
  have key : ∀ j : Nat, j < l.length → 0 ≤ l.getD j 0 - (j : Int) := fun j => by
    induction j with
    | zero => intro hj; have := h 0 hj; rw [if_pos rfl] at this; omega
    | succ j ih =>
      intro hj
      have a := ih (by omega)
      have b := h (j + 1) hj
      rw [if_neg (by omega)] at b
      have e : j + 1 - 1 = j := rfl
      rw [e] at b
      omega
  have step : ∀ i d : Nat, i + d < l.length → l.getD i 0 - (i : Int) ≤ l.getD (i + d) 0 - ((i + d : Nat) : Int) := fun i d => by
    induction d with
    | zero => intro _; exact Int.le_refl _
    | succ d ih =>
      intro hd
      have a := ih (by omega)
      have b := h (i + (d + 1)) hd
      rw [if_neg (by omega)] at b
      have e : i + (d + 1) - 1 = i + d := by omega
      rw [e] at b
      omega
  refine ⟨fun x hx => ?_, List.pairwise_iff_getElem.mpr fun i j hi hj hij => ?_⟩
  · obtain ⟨i, hi, e⟩ := List.getElem_of_mem hx
    have hi' := hi
    rw [gapsOf_len] at hi'
    rw [← e, getD_elem hi, gapsOf_at hi']
    exact key i hi'
  · have hi' := hi
    have hj' := hj
    rw [gapsOf_len] at hi' hj'
    rw [getD_elem hi, getD_elem hj, gapsOf_at hi', gapsOf_at hj']
    have := step i (j - i) (by omega)
    have e : i + (j - i) = j := by omega
    rw [e] at this
    exact this
theorem beads_rowOf {l : List Int} (h : Rise l) : beadsM (rowOfM l) l.length = l := by
  obtain ⟨h0, hp⟩ := gapsOf_up h
  have e : gapsM (rowOfM l) l.length = gapsOf l := by
    unfold gapsM rowOfM
    rw [List.filter_reverse, List.reverse_reverse, List.length_reverse]
    have := pad_pos h0 hp
    rw [gapsOf_len] at this
    exact this
  refine List.ext_getElem (by rw [beads_len]) fun i a b => ?_
  rw [getD_elem a, getD_elem b, beads_at b, e, gapsOf_at b]
  omega
theorem rowOf_len (l : List Int) : (rowOfM l).length ≤ l.length := by
  unfold rowOfM
  have := List.length_filter_le (fun g : Int => decide (0 < g)) (gapsOf l).reverse
  rw [List.length_reverse, gapsOf_len] at this
  exact this
theorem gapsM_more {r : List Int} {m n : Nat} (h1 : r.length ≤ m) (h2 : m ≤ n) : gapsM r n = List.replicate (n - m) 0 ++ gapsM r m := by
  unfold gapsM
  rw [← List.append_assoc, List.replicate_append_replicate]
  congr 2
  omega
theorem beads_shift {r : List Int} {m n : Nat} (h1 : r.length ≤ m) (h2 : m ≤ n) : beadsM r n = shiftI (n - m) (beadsM r m) := by
  refine List.ext_getElem (by rw [beads_len, shift_len, beads_len]; omega) fun i a b => ?_
  have hi : i < n := by rw [beads_len] at a; exact a
  rw [getD_elem a, getD_elem b, beads_at hi, gapsM_more h1 h2]
  by_cases z : i < n - m
  · rw [shift_lo z, getD_appL (by rw [List.length_replicate]; exact z), rep_at]
    omega
  · rw [shift_hi (by omega) (by rw [beads_len]; omega), getD_appR (by rw [List.length_replicate]; omega), List.length_replicate, beads_at (by omega)]
    omega

theorem beads_nil (m : Nat) : beadsM [] m = rngI m := by
  unfold beadsM rngI
  refine List.map_congr_left fun i _ => ?_
  have e : (gapsM [] m).getD i 0 = 0 := by
    show (List.replicate (m - 0) (0 : Int) ++ []).getD i 0 = 0
    rw [List.append_nil, rep_at]
  rw [e]
  omega
theorem empties_at {n k : Nat} : (empties n).getD k [] = [] := by
  unfold empties
  rw [List.getD_eq_getElem?_getD, List.getElem?_replicate]
  split <;> rfl
theorem empties_len (n : Nat) : (empties n).length = n := by unfold empties; rw [List.length_replicate]
theorem places_PL (ns : List Int) (n : Nat) (s : Int) : ∀ i : Nat, placesTo ns (empties n) s i = PL ns (n : Int) s i
  | 0 => rfl
  | i + 1 => by
    rw [placesTo_succ, PL_succ, places_PL ns n s i, empties_at, empties_len, beads_nil]
    unfold rodP rngI
    rw [List.map_map]
    rfl
theorem lacks_bd {ns : List Int} {n : Nat} (hn : n = ns.length) (h1 : 1 ≤ n) (hb : ∀ x ∈ ns, -6 ≤ x ∧ x ≤ 6) : -6 ≤ leastM ns (empties n) ∧ leastM ns (empties n) ≤ 6 := by
  have hm := maxI_mem (l := lacksM ns (empties n)) (by intro z; have := lacks_len ns (empties n); rw [z, empties_len] at this; simp at this; omega)
  obtain ⟨k, hk, e⟩ := List.mem_map.mp hm
  have hk' := List.mem_range.mp hk
  rw [empties_len] at hk'
  have := hb (ns.getD k 0) (by rw [← getD_elem (by omega)]; exact List.getElem_mem _)
  rw [empties_at] at e
  have e' : ((([] : List Int).length : Nat) : Int) = 0 := rfl
  rw [e'] at e
  unfold leastM
  omega
theorem lacks_ge {ns : List Int} {n k : Nat} (hk : k < n) : 0 ≤ leastM ns (empties n) + ns.getD k 0 := by
  have := lacks_le (ns := ns) (rows := empties n) (k := k) (by rw [empties_len]; exact hk)
  rw [empties_at] at this
  exact this
theorem core_laid {ns : List Int} (h1 : 1 ≤ ns.length) (h8 : ns.length ≤ 8) (hb : ∀ x ∈ ns, -6 ≤ x ∧ x ≤ 6) (hs : ns.sum = 0) : LaidOk ns (empties ns.length) := by
  have hL := lacks_bd rfl h1 hb
  have ep : placesM ns (empties ns.length) = PL ns (ns.length : Int) (leastM ns (empties ns.length)) ns.length := by
    unfold placesM
    rw [empties_len, places_PL]
  refine ⟨empties_len _, by rw [empties_len]; exact h1, by rw [empties_len]; exact h8, fun x hx => by have := hb x hx; omega, ?_, ?_⟩
  · rw [ep]
    have := PL_len (ns := ns) (t := (ns.length : Int)) (s := leastM ns (empties ns.length)) (i := ns.length) (Nat.le_refl _) fun k hk => lacks_ge hk
    rw [List.take_length, hs] at this
    have a := Int.mul_le_mul_of_nonneg_right hL.2 (show (0 : Int) ≤ (ns.length : Int) by omega)
    omega
  · rw [ep]
    exact up_rise (PL_up (Int.le_refl _)) (PL_pos (by omega))
theorem core_six {ns : List Int} (h1 : 1 ≤ ns.length) (hb : ∀ x ∈ ns, -6 ≤ x ∧ x ≤ 6) : coreOfM ns = rowOfM (sortI (PL ns (ns.length : Int) 6 ns.length)) := by
  have hL := lacks_bd rfl h1 hb
  unfold coreOfM laidM placesM
  rw [empties_len, places_PL, PL_shift rfl (by omega) hL.2 (fun k hk => lacks_ge hk), rowOf_shift]
theorem perm_sum {a b : List Int} (h : a.Perm b) : a.sum = b.sum := by
  induction h with
  | nil => rfl
  | cons x _ ih => rw [List.sum_cons, List.sum_cons, ih]
  | swap x y l => simp only [List.sum_cons]; omega
  | trans _ _ ih1 ih2 => rw [ih1, ih2]
theorem gaps_snoc (l : List Int) (x : Int) : gapsOf (l ++ [x]) = gapsOf l ++ [x - (l.length : Int)] := by
  refine List.ext_getElem (by rw [gapsOf_len, List.length_append, List.length_append, gapsOf_len]; rfl) fun i a b => ?_
  have hi : i < l.length + 1 := by rw [gapsOf_len, List.length_append] at a; exact a
  rw [getD_elem a, getD_elem b, gapsOf_at (by rw [List.length_append]; exact hi)]
  by_cases z : i < l.length
  · rw [getD_appL z, getD_appL (by rw [gapsOf_len]; exact z), gapsOf_at z]
  · obtain rfl : i = l.length := by omega
    rw [getD_appR (Nat.le_refl _), getD_appR (by rw [gapsOf_len]; exact Nat.le_refl _), gapsOf_len, Nat.sub_self]
    rfl
theorem gaps_sum_rev : ∀ l : List Int, 2 * (gapsOf l.reverse).sum = 2 * l.reverse.sum - (l.length : Int) * ((l.length : Int) - 1)
  | [] => rfl
  | x :: l => by
    have ih := gaps_sum_rev l
    rw [List.reverse_cons, gaps_snoc, List.sum_append, List.sum_append, List.length_reverse, List.length_cons]
    have e1 : [x - (l.length : Int)].sum = x - (l.length : Int) := by simp
    have e2 : [x].sum = x := by simp
    rw [e1, e2]
    have e3 : ((l.length + 1 : Nat) : Int) * (((l.length + 1 : Nat) : Int) - 1) = (l.length : Int) * ((l.length : Int) - 1) + 2 * (l.length : Int) := by grind
    rw [e3]
    omega
theorem gaps_sum (l : List Int) : 2 * (gapsOf l).sum = 2 * l.sum - (l.length : Int) * ((l.length : Int) - 1) := by
  have := gaps_sum_rev l.reverse
  rw [List.reverse_reverse, List.length_reverse] at this
  exact this
theorem filter_sum : ∀ {g : List Int}, (∀ x ∈ g, 0 ≤ x) → (g.filter fun x => decide (0 < x)).sum = g.sum
  | [], _ => rfl
  | x :: g, h => by
    have ih := filter_sum (g := g) fun y hy => h y (List.mem_cons_of_mem _ hy)
    have hx := h x (List.mem_cons_self ..)
    rw [List.filter_cons]
    by_cases z : 0 < x
    · rw [if_pos (decide_eq_true z), List.sum_cons, List.sum_cons, ih]
    · rw [if_neg (by rw [decide_eq_false z]; decide), ih, List.sum_cons]
      omega
theorem rowOf_sum {l : List Int} (h : Rise l) : 2 * (rowOfM l).sum = 2 * l.sum - (l.length : Int) * ((l.length : Int) - 1) := by
  rw [← gaps_sum]
  unfold rowOfM
  have h0 := (gapsOf_up h).1
  rw [filter_sum fun x hx => h0 x (List.mem_reverse.mp hx), perm_sum (List.reverse_perm _)]
theorem rod_sum (t s n : Int) (k : Nat) : 2 * (rodP t s n k).sum = t * ((s + n).toNat : Int) * (((s + n).toNat : Int) - 1) + 2 * (k : Int) * ((s + n).toNat : Int) := by
  unfold rodP
  generalize (s + n).toNat = m
  induction m with
  | zero => show (2 : Int) * 0 = t * 0 * _ + 2 * (k : Int) * 0; grind
  | succ m ih =>
    rw [List.range_succ, List.map_append, List.sum_append]
    have e : (List.map (fun (h : Nat) => (h : Int) * t + (k : Int)) [m]).sum = (m : Int) * t + (k : Int) := by simp
    rw [e]
    have e2 : ((m + 1 : Nat) : Int) = (m : Int) + 1 := by omega
    rw [e2]
    grind
def twM (ns : List Int) (t : Int) : Nat → Int
  | 0 => 0
  | i + 1 => twM ns t i + t * ns.getD i 0 * ns.getD i 0 + 2 * (i : Int) * ns.getD i 0
theorem PL_sum {ns : List Int} {t : Int} (hb : ∀ x ∈ ns, -6 ≤ x ∧ x ≤ 6) : ∀ {i : Nat}, i ≤ ns.length → 2 * (PL ns t 6 i).sum = twM ns t i + 11 * t * (ns.take i).sum + 30 * t * (i : Int) + 6 * (i : Int) * ((i : Int) - 1)
  | 0, _ => by show (2 : Int) * 0 = 0 + 11 * t * 0 + 30 * t * 0 + 6 * 0 * _; grind
  | i + 1, hi => by
    have ih := PL_sum (t := t) hb (i := i) (by omega)
    have hx := hb (ns.getD i 0) (by rw [← getD_elem (by omega)]; exact List.getElem_mem _)
    have a := rod_sum t 6 (ns.getD i 0) i
    have e0 : (((6 + ns.getD i 0).toNat : Nat) : Int) = 6 + ns.getD i 0 := by omega
    rw [e0] at a
    rw [PL_succ, List.sum_append, List.take_succ_eq_append_getElem (by omega), List.sum_append, getD_elem]
    have e : [ns.getD i 0].sum = ns.getD i 0 := by simp
    have e2 : ((i + 1 : Nat) : Int) = (i : Int) + 1 := by omega
    rw [e, e2]
    show 2 * ((PL ns t 6 i).sum + (rodP t 6 (ns.getD i 0) i).sum) = twM ns t i + t * ns.getD i 0 * ns.getD i 0 + 2 * (i : Int) * ns.getD i 0 + _ + _ + _
    generalize ns.getD i 0 = n at *
    generalize (ns.take i).sum = z at *
    generalize (PL ns t 6 i).sum = u at *
    generalize (rodP t 6 n i).sum = v at *
    generalize twM ns t i = y at *
    grind
theorem core_size {ns : List Int} (h1 : 1 ≤ ns.length) (hb : ∀ x ∈ ns, -6 ≤ x ∧ x ≤ 6) (hs : ns.sum = 0) : 2 * (coreOfM ns).sum = twM ns (ns.length : Int) ns.length := by
  rw [core_six h1 hb]
  have hr : Rise (sortI (PL ns (ns.length : Int) 6 ns.length)) := up_rise (PL_up (Int.le_refl _)) (PL_pos (by omega))
  have hl : (((sortI (PL ns (ns.length : Int) 6 ns.length)).length : Nat) : Int) = 6 * (ns.length : Int) := by
    rw [(sortI_perm _).length_eq]
    have := PL_len (ns := ns) (t := (ns.length : Int)) (s := 6) (i := ns.length) (Nat.le_refl _) fun k hk => by
      have := hb (ns.getD k 0) (by rw [← getD_elem hk]; exact List.getElem_mem _)
      omega
    rw [List.take_length, hs] at this
    omega
  rw [rowOf_sum hr, hl, perm_sum (sortI_perm _), PL_sum hb (Nat.le_refl _), List.take_length, hs]
  generalize (ns.length : Int) = t
  generalize twM ns t ns.length = y
  grind
theorem core_charges {ns : List Int} (h1 : 1 ≤ ns.length) (hb : ∀ x ∈ ns, -6 ≤ x ∧ x ≤ 6) (hs : ns.sum = 0) : chargesM (coreOfM ns) (ns.length : Int) = ns := by
  rw [core_six h1 hb]
  obtain ⟨t, ht⟩ : ∃ t : Int, t = (ns.length : Int) := ⟨_, rfl⟩
  rw [← ht]
  obtain ⟨S, hS⟩ : ∃ S, S = sortI (PL ns t 6 ns.length) := ⟨_, rfl⟩
  rw [← hS]
  have h6 : ∀ k : Nat, k < ns.length → 0 ≤ 6 + ns.getD k 0 := fun k hk => by
    have := hb (ns.getD k 0) (by rw [← getD_elem hk]; exact List.getElem_mem _)
    omega
  have hr : Rise S := by rw [hS]; exact up_rise (PL_up (by omega)) (PL_pos (by omega))
  have hl : ((S.length : Nat) : Int) = 6 * t := by
    rw [hS, (sortI_perm _).length_eq, PL_len (Nat.le_refl _) h6, List.take_length, hs]
    omega
  have hm := share_mul (rowOfM S) (t := t) (by omega)
  have hrl := rowOf_len S
  have hs6 : shareM (rowOfM S) t ≤ 6 := by
    have : shareM (rowOfM S) t < 7 := Int.lt_of_mul_lt_mul_right (a := t) (by omega) (by omega)
    omega
  have hmn : (shareM (rowOfM S) t * t).toNat ≤ S.length := by
    have := Int.mul_le_mul_of_nonneg_right hs6 (show 0 ≤ t by omega)
    omega
  have hsh := beads_shift (r := rowOfM S) (m := (shareM (rowOfM S) t * t).toNat) (n := S.length) (by omega) hmn
  rw [beads_rowOf hr] at hsh
  have hd : S.length - (shareM (rowOfM S) t * t).toNat = ((6 - shareM (rowOfM S) t) * t).toNat := by
    have e : (6 - shareM (rowOfM S) t) * t = 6 * t - shareM (rowOfM S) t * t := by grind
    rw [e]
    omega
  rw [hd] at hsh
  have htn : t.toNat = ns.length := by omega
  refine List.ext_getElem (by rw [charges_len, htn]) fun k a b => ?_
  have hk : k < ns.length := b
  have e0 : (chargesM (rowOfM S) t)[k] = ((hOn (beadsM (rowOfM S) (shareM (rowOfM S) t * t).toNat) t (0 + (k : Int))).length : Int) - shareM (rowOfM S) t := by
    simp only [chargesM, partedM, List.getElem_map, List.getElem_range]
  have f1 := PL_rod (ns := ns) (t := t) (s := 6) ht hk
  rw [← hS] at f1
  have f2 := congrArg List.length f1
  rw [rod_len] at f2
  rw [hsh] at f2
  unfold shiftI at f2
  have hdn : 0 ≤ (6 - shareM (rowOfM S) t) * t := Int.mul_nonneg (by omega) (by omega)
  rw [List.filter_append, List.length_append, rng_rod (by omega) (by omega) (by omega), rod_len, List.filter_map, List.length_map] at f2
  have f3 : (beadsM (rowOfM S) (shareM (rowOfM S) t * t).toNat).filter ((fun x => decide (x % t = 0 + (k : Int))) ∘ fun x => x + ((((6 - shareM (rowOfM S) t) * t).toNat : Nat) : Int)) = (beadsM (rowOfM S) (shareM (rowOfM S) t * t).toNat).filter fun x => decide (x % t = 0 + (k : Int)) := by
    refine List.filter_congr fun x _ => ?_
    have e1 : ((((6 - shareM (rowOfM S) t) * t).toNat : Nat) : Int) = (6 - shareM (rowOfM S) t) * t := by omega
    show decide ((x + ((((6 - shareM (rowOfM S) t) * t).toNat : Nat) : Int)) % t = _) = _
    rw [e1, Int.add_mul_emod_self_right]
  rw [f3] at f2
  have h6k := h6 k hk
  rw [e0, getD_elem hk]
  unfold hOn
  rw [List.length_map]
  omega
def toldM (ps : List Int) : List Int := ((sortI ps).reverse.map fun p => p - (((ps.filter fun o => decide (o < p)).length : Nat) : Int)).filter fun n => decide (0 < n)
theorem up_less : ∀ {l : List Int}, Up l → ∀ {i : Nat} (h : i < l.length), (l.filter fun o => decide (o < l[i])).length = i
  | [], _, i, h => absurd h (Nat.not_lt_zero i)
  | x :: l, hu, 0, h => by
    have a := List.pairwise_cons.mp hu
    have e : (x :: l).filter (fun o => decide (o < (x :: l)[0])) = [] := List.filter_eq_nil_iff.mpr fun y hy => by
      show ¬ decide (y < x) = true
      rcases List.mem_cons.mp hy with e | e
      · rw [e]; simp
      · have := a.1 y e
        simp; omega
    rw [e]; rfl
  | x :: l, hu, i + 1, h => by
    have a := List.pairwise_cons.mp hu
    have hi : i < l.length := by rw [List.length_cons] at h; omega
    have ih := up_less a.2 (i := i) hi
    rw [List.filter_cons, if_pos (show decide (x < (x :: l)[i + 1]) = true from decide_eq_true (a.1 _ (List.getElem_mem hi))), List.length_cons]
    show (l.filter fun o => decide (o < l[i])).length + 1 = i + 1
    rw [ih]
theorem told_rowOf {ps : List Int} (h : ps.Nodup) : toldM ps = rowOfM (sortI ps) := by
  unfold toldM rowOfM
  rw [List.map_reverse]
  congr 2
  refine List.ext_getElem (by rw [List.length_map, gapsOf_len]) fun i a b => ?_
  have hi : i < (sortI ps).length := by rw [List.length_map] at a; exact a
  rw [List.getElem_map, getD_elem b, gapsOf_at hi]
  have e : (ps.filter fun o => decide (o < (sortI ps)[i])).length = i := by
    exact (((sortI_perm ps).filter _).length_eq).symm.trans (up_less (sort_strict h) hi)
  rw [e, getD_elem hi]

theorem sumR_indic (t : Nat) (j : Nat) (h : j < t) : ∀ i : Nat, i ≤ t → ((List.range i).map fun (k : Nat) => if j = k then (1 : Int) else 0).sum = if j < i then 1 else 0
  | 0, _ => by rw [if_neg (Nat.not_lt_zero j)]; rfl
  | i + 1, hi => by
    have ih := sumR_indic t j h i (by omega)
    rw [List.range_succ, List.map_append, List.sum_append, ih]
    have e : (List.map (fun (k : Nat) => if j = k then (1 : Int) else 0) [i]).sum = if j = i then (1 : Int) else 0 := by simp
    rw [e]
    by_cases z : j = i
    · rw [if_pos z, if_neg (by omega), if_pos (by omega)]; rfl
    · rw [if_neg z]
      by_cases y : j < i
      · rw [if_pos y, if_pos (by omega)]; rfl
      · rw [if_neg y, if_neg (by omega)]; rfl
theorem sum_map_add {α : Type} (l : List α) (f g : α → Int) : (l.map fun x => f x + g x).sum = (l.map f).sum + (l.map g).sum := by
  induction l with
  | nil => rfl
  | cons a l ih => simp only [List.map_cons, List.sum_cons]; omega
theorem sum_map_sub {α : Type} (l : List α) (f g : α → Int) : (l.map fun x => f x - g x).sum = (l.map f).sum - (l.map g).sum := by
  induction l with
  | nil => rfl
  | cons a l ih => simp only [List.map_cons, List.sum_cons]; omega
theorem sum_map_const {α : Type} (l : List α) (c : Int) : (l.map fun _ => c).sum = (l.length : Int) * c := by
  induction l with
  | nil => show (0 : Int) = ((0 : Nat) : Int) * c; grind
  | cons a l ih => simp only [List.map_cons, List.sum_cons, List.length_cons]; rw [ih]; grind
theorem rods_all {t : Int} (ht : 1 ≤ t) : ∀ l : List Int, ((List.range t.toNat).map fun (k : Nat) => ((l.filter fun x => decide (x % t = 0 + (k : Int))).length : Int)).sum = (l.length : Int)
  | [] => by
    show ((List.range t.toNat).map fun (k : Nat) => (0 : Int)).sum = 0
    rw [sum_map_const]; omega
  | x :: l => by
    have ih := rods_all ht l
    have a := Int.emod_nonneg x (b := t) (by omega)
    have b := Int.emod_lt_of_pos x (b := t) (by omega)
    have e : ((List.range t.toNat).map fun (k : Nat) => (((x :: l).filter fun x => decide (x % t = 0 + (k : Int))).length : Int)) = (List.range t.toNat).map fun (k : Nat) => (if (x % t).toNat = k then (1 : Int) else 0) + ((l.filter fun x => decide (x % t = 0 + (k : Int))).length : Int) := by
      refine List.map_congr_left fun k _ => ?_
      rw [List.filter_cons]
      by_cases z : x % t = 0 + (k : Int)
      · rw [if_pos (decide_eq_true z), if_pos (by omega), List.length_cons]; omega
      · rw [if_neg (by rw [decide_eq_false z]; decide), if_neg (by omega)]; omega
    rw [e, sum_map_add, ih, sumR_indic t.toNat _ (by omega) t.toNat (Nat.le_refl _), if_pos (by omega), List.length_cons]
    omega
theorem hOn_length (l : List Int) (t k : Int) : (hOn l t k).length = (l.filter fun x => decide (x % t = k)).length := by unfold hOn; rw [List.length_map]
theorem charges_at {r : List Int} {t : Int} {k : Nat} (h : k < t.toNat) : (chargesM r t).getD k 0 = ((hOn (beadsM r (shareM r t * t).toNat) t (0 + (k : Int))).length : Int) - shareM r t := by
  rw [← getD_elem (by rw [charges_len]; exact h)]
  simp only [chargesM, partedM, List.getElem_map, List.getElem_range]
theorem charges_sum {r : List Int} {t : Int} (ht : 1 ≤ t) : (chargesM r t).sum = 0 := by
  have e : chargesM r t = (List.range t.toNat).map fun (k : Nat) => ((((beadsM r (shareM r t * t).toNat).filter fun x => decide (x % t = 0 + (k : Int))).length : Nat) : Int) - shareM r t := by
    unfold chargesM partedM
    rw [List.map_map]
    refine List.map_congr_left fun k _ => ?_
    show (((hOn (beadsM r (shareM r t * t).toNat) t (0 + (k : Int))).length : Nat) : Int) - shareM r t = _
    rw [hOn_length]
  have hm := share_mul r ht
  rw [e, sum_map_sub, rods_all ht, sum_map_const, beads_len, List.length_range]
  have e2 : ((t.toNat : Nat) : Int) = t := by omega
  rw [e2, Int.mul_comm t]
  omega
theorem charges_lo {r : List Int} {t : Int} {k : Nat} (h : k < t.toNat) : 0 ≤ shareM r t + (chargesM r t).getD k 0 := by
  rw [charges_at h]; omega
theorem core_any {ns : List Int} {s : Int} (h1 : 1 ≤ ns.length) (hn : ∀ k : Nat, k < ns.length → 0 ≤ s + ns.getD k 0) : coreOfM ns = rowOfM (sortI (PL ns (ns.length : Int) s ns.length)) := by
  have hL : leastM ns (empties ns.length) ≤ s := by
    have hm := maxI_mem (l := lacksM ns (empties ns.length)) (by intro z; have := lacks_len ns (empties ns.length); rw [z, empties_len] at this; simp at this; omega)
    obtain ⟨k, hk, e⟩ := List.mem_map.mp hm
    have hk' := List.mem_range.mp hk
    rw [empties_len] at hk'
    have := hn k hk'
    rw [empties_at] at e
    have e' : ((([] : List Int).length : Nat) : Int) = 0 := rfl
    rw [e'] at e
    unfold leastM
    omega
  unfold coreOfM laidM placesM
  rw [empties_len, places_PL, PL_shift rfl (by omega) hL (fun k hk => lacks_ge hk), rowOf_shift]
theorem PL_sumS {ns : List Int} {t s : Int} (hn : ∀ k : Nat, k < ns.length → 0 ≤ s + ns.getD k 0) : ∀ {i : Nat}, i ≤ ns.length → 2 * (PL ns t s i).sum = twM ns t i + (2 * s - 1) * t * (ns.take i).sum + s * (s - 1) * t * (i : Int) + s * (i : Int) * ((i : Int) - 1)
  | 0, _ => by show (2 : Int) * 0 = 0 + (2 * s - 1) * t * 0 + s * (s - 1) * t * 0 + s * 0 * _; grind
  | i + 1, hi => by
    have ih := PL_sumS (t := t) hn (i := i) (by omega)
    have hx := hn i (by omega)
    have a := rod_sum t s (ns.getD i 0) i
    have e0 : (((s + ns.getD i 0).toNat : Nat) : Int) = s + ns.getD i 0 := by omega
    rw [e0] at a
    rw [PL_succ, List.sum_append, List.take_succ_eq_append_getElem (by omega), List.sum_append, getD_elem]
    have e : [ns.getD i 0].sum = ns.getD i 0 := by simp
    have e2 : ((i + 1 : Nat) : Int) = (i : Int) + 1 := by omega
    rw [e, e2]
    show 2 * ((PL ns t s i).sum + (rodP t s (ns.getD i 0) i).sum) = twM ns t i + t * ns.getD i 0 * ns.getD i 0 + 2 * (i : Int) * ns.getD i 0 + _ + _ + _
    generalize ns.getD i 0 = n at *
    generalize (ns.take i).sum = z at *
    generalize (PL ns t s i).sum = u at *
    generalize (rodP t s n i).sum = v at *
    generalize twM ns t i = y at *
    generalize (i : Int) = i' at *
    grind
theorem core_sizeS {ns : List Int} {s : Int} (h1 : 1 ≤ ns.length) (hn : ∀ k : Nat, k < ns.length → 0 ≤ s + ns.getD k 0) (hs : ns.sum = 0) : 2 * (coreOfM ns).sum = twM ns (ns.length : Int) ns.length := by
  rw [core_any h1 hn]
  have hr : Rise (sortI (PL ns (ns.length : Int) s ns.length)) := up_rise (PL_up (Int.le_refl _)) (PL_pos (by omega))
  have hl : (((sortI (PL ns (ns.length : Int) s ns.length)).length : Nat) : Int) = s * (ns.length : Int) := by
    rw [(sortI_perm _).length_eq]
    have := PL_len (ns := ns) (t := (ns.length : Int)) (s := s) (i := ns.length) (Nat.le_refl _) hn
    rw [List.take_length, hs] at this
    omega
  rw [rowOf_sum hr, hl, perm_sum (sortI_perm _), PL_sumS hn (Nat.le_refl _), List.take_length, hs]
  generalize (ns.length : Int) = t
  generalize twM ns t ns.length = y
  grind
theorem rod_least {t : Int} (ht : 1 ≤ t) {k : Nat} (hk : (k : Int) < t) : ∀ (l : List Int) (b : Nat), Up l → (∀ x ∈ l, x % t = (k : Int) ∧ (b : Int) * t + (k : Int) ≤ x) → 2 * l.sum ≥ 2 * ((b : Int) * t + (k : Int)) * (l.length : Int) + t * (l.length : Int) * ((l.length : Int) - 1)
  | [], b, _, _ => by show 2 * (0 : Int) ≥ _; grind
  | x :: l, b, hu, h => by
    have a := List.pairwise_cons.mp hu
    have hx := h x (List.mem_cons_self ..)
    have ih := rod_least ht hk l (b + 1) a.2 fun y hy => by
      have hy1 := h y (List.mem_cons_of_mem _ hy)
      refine ⟨hy1.1, ?_⟩
      have lt := a.1 y hy
      have f1 := Int.emod_add_mul_ediv x t
      have f2 := Int.emod_add_mul_ediv y t
      have g : x / t < y / t := by
        refine Int.lt_of_mul_lt_mul_left (a := t) ?_ (by omega)
        omega
      have g2 : (b : Int) ≤ x / t := by
        have : (b : Int) * t ≤ (x / t) * t := by have := Int.mul_comm t (x / t); omega
        exact Int.le_of_mul_le_mul_right this (by omega)
      have g3 := Int.mul_le_mul_of_nonneg_left (show (b : Int) + 1 ≤ y / t by omega) (show 0 ≤ t by omega)
      have e : (((b + 1 : Nat) : Int)) * t = t * ((b : Int) + 1) := by grind
      rw [e]
      omega
    rw [List.sum_cons, List.length_cons]
    have e1 : ((l.length + 1 : Nat) : Int) = (l.length : Int) + 1 := by omega
    have e2 : ((b + 1 : Nat) : Int) = (b : Int) + 1 := by omega
    rw [e1]
    rw [e2] at ih
    have hx2 := hx.2
    have e3 : 2 * (((b : Int) + 1) * t + (k : Int)) * (l.length : Int) + t * (l.length : Int) * ((l.length : Int) - 1) + 2 * ((b : Int) * t + (k : Int)) = 2 * ((b : Int) * t + (k : Int)) * ((l.length : Int) + 1) + t * ((l.length : Int) + 1) * ((l.length : Int) + 1 - 1) := by grind
    omega

theorem sumR_pick (x : Int) (j : Nat) : ∀ i : Nat, ((List.range i).map fun (k : Nat) => if j = k then x else 0).sum = if j < i then x else 0
  | 0 => by rw [if_neg (Nat.not_lt_zero j)]; rfl
  | i + 1 => by
    have ih := sumR_pick x j i
    rw [List.range_succ, List.map_append, List.sum_append, ih]
    have e : (List.map (fun (k : Nat) => if j = k then x else 0) [i]).sum = if j = i then x else 0 := by simp
    rw [e]
    by_cases z : j = i
    · rw [if_pos z, if_neg (by omega), if_pos (by omega)]; omega
    · rw [if_neg z]
      by_cases y : j < i
      · rw [if_pos y, if_pos (by omega)]; omega
      · rw [if_neg y, if_neg (by omega)]; rfl
theorem rods_sum {t : Int} (ht : 1 ≤ t) : ∀ l : List Int, ((List.range t.toNat).map fun (k : Nat) => (l.filter fun x => decide (x % t = 0 + (k : Int))).sum).sum = l.sum
  | [] => by
    show ((List.range t.toNat).map fun (k : Nat) => (0 : Int)).sum = 0
    rw [sum_map_const]; omega
  | x :: l => by
    have ih := rods_sum ht l
    have a := Int.emod_nonneg x (b := t) (by omega)
    have b := Int.emod_lt_of_pos x (b := t) (by omega)
    have e : ((List.range t.toNat).map fun (k : Nat) => ((x :: l).filter fun x => decide (x % t = 0 + (k : Int))).sum) = (List.range t.toNat).map fun (k : Nat) => (if (x % t).toNat = k then x else 0) + (l.filter fun x => decide (x % t = 0 + (k : Int))).sum := by
      refine List.map_congr_left fun k _ => ?_
      rw [List.filter_cons]
      by_cases z : x % t = 0 + (k : Int)
      · rw [if_pos (decide_eq_true z), if_pos (by omega), List.sum_cons]
      · rw [if_neg (by rw [decide_eq_false z]; decide), if_neg (by omega)]; omega
    rw [e, sum_map_add, ih, sumR_pick, if_pos (by omega), List.sum_cons]
theorem PL_sums (ns : List Int) (t s : Int) : ∀ i : Nat, (PL ns t s i).sum = ((List.range i).map fun (k : Nat) => (rodP t s (ns.getD k 0) k).sum).sum
  | 0 => rfl
  | i + 1 => by
    rw [PL_succ, List.sum_append, PL_sums ns t s i, List.range_succ, List.map_append, List.sum_append]
    simp only [List.map_cons, List.map_nil, List.sum_cons, List.sum_nil, Int.add_zero]
theorem sum_map_le {α : Type} (l : List α) (f g : α → Int) (h : ∀ x ∈ l, f x ≤ g x) : (l.map f).sum ≤ (l.map g).sum := by
  induction l with
  | nil => exact Int.le_refl _
  | cons a l ih =>
    have := h a (List.mem_cons_self ..)
    have := ih fun x hx => h x (List.mem_cons_of_mem _ hx)
    simp only [List.map_cons, List.sum_cons]
    omega
theorem core_le {r : List Int} {t : Int} (hr : IsRow r) (h1 : 1 ≤ t) : (coreM r t).sum ≤ r.sum := by
  have hcl := charges_len r t
  obtain ⟨ns, hns⟩ : ∃ ns, ns = chargesM r t := ⟨_, rfl⟩
  obtain ⟨s, hs⟩ : ∃ s, s = shareM r t := ⟨_, rfl⟩
  have hm := share_mul r h1
  rw [← hs] at hm
  have hlo : ∀ k : Nat, k < ns.length → 0 ≤ s + ns.getD k 0 := fun k hk => by
    rw [hns, hs]
    exact charges_lo (by rw [hns, hcl] at hk; exact hk)
  have hsum : ns.sum = 0 := by rw [hns]; exact charges_sum h1
  have hnl : (ns.length : Int) = t := by rw [hns, hcl]; omega
  have htn : t.toNat = ns.length := by omega
  have hpos := isRow_pos hr
  obtain ⟨S, hS⟩ : ∃ S, S = beadsM r (s * t).toNat := ⟨_, rfl⟩
  have hSl : ((S.length : Nat) : Int) = s * t := by rw [hS, beads_len]; omega
  have hSr : Rise S := by
    rw [hS]
    exact beads_rise (fun x hx => by have := hpos x hx; omega) (isRow_pair hr) (by omega)
  have e1 : rowOfM S = r := by rw [hS]; exact rowOf_beads hpos (by omega)
  have a1 := rowOf_sum hSr
  rw [e1, hSl] at a1
  have hPr : Rise (sortI (PL ns t s ns.length)) := up_rise (PL_up (by omega)) (PL_pos (by omega))
  have a2 := rowOf_sum hPr
  have hPl : (((sortI (PL ns t s ns.length)).length : Nat) : Int) = s * t := by
    rw [(sortI_perm _).length_eq, PL_len (Nat.le_refl _) hlo, List.take_length, hsum, hnl]
    omega
  rw [hPl, perm_sum (sortI_perm _)] at a2
  have e2 : coreM r t = rowOfM (sortI (PL ns t s ns.length)) := by
    unfold coreM
    rw [← hns, core_any (by omega) hlo, hnl]
  rw [e2]
  have key : (PL ns t s ns.length).sum ≤ S.sum := by
    rw [PL_sums, ← rods_sum h1 S, htn]
    refine sum_map_le _ _ _ fun k hk => ?_
    have hk' := List.mem_range.mp hk
    have c := rod_least h1 (k := k) (by omega) (S.filter fun x => decide (x % t = 0 + (k : Int))) 0 ((rise_up hSr).filter _) fun x hx => by
      obtain ⟨y1, y2⟩ := List.mem_filter.mp hx
      have y3 := of_decide_eq_true y2
      refine ⟨by omega, ?_⟩
      have h0 : 0 ≤ x := by
        obtain ⟨i, hi, e⟩ := List.getElem_of_mem y1
        rw [← e, getD_elem hi]
        exact rise_pos hSr i hi
      have f1 := Int.emod_add_mul_ediv x t
      have f2 : 0 ≤ t * (x / t) := Int.mul_nonneg (by omega) (Int.ediv_nonneg h0 (by omega))
      have e0 : ((0 : Nat) : Int) * t = 0 := by grind
      rw [e0]
      omega
    have d := rod_sum t s (ns.getD k 0) k
    have hc := charges_at (r := r) (t := t) (k := k) (by omega)
    rw [← hns, ← hs, ← hS, hOn_length] at hc
    have ec : (((s + ns.getD k 0).toNat : Nat) : Int) = ((S.filter fun x => decide (x % t = 0 + (k : Int))).length : Int) := by
      have := hlo k hk'
      omega
    rw [ec] at d
    have e0 : ((0 : Nat) : Int) * t + (k : Int) = (k : Int) := by grind
    rw [e0] at c
    have e4 : 2 * (k : Int) * ((S.filter fun x => decide (x % t = 0 + (k : Int))).length : Int) + t * ((S.filter fun x => decide (x % t = 0 + (k : Int))).length : Int) * (((S.filter fun x => decide (x % t = 0 + (k : Int))).length : Int) - 1) = t * ((S.filter fun x => decide (x % t = 0 + (k : Int))).length : Int) * (((S.filter fun x => decide (x % t = 0 + (k : Int))).length : Int) - 1) + 2 * (k : Int) * ((S.filter fun x => decide (x % t = 0 + (k : Int))).length : Int) := by omega
    omega
  omega
theorem term_lo {t n k p : Int} (ht : 1 ≤ t) (hk0 : 0 ≤ k) (hk : k ≤ t - 1) (hp : p = n ∨ p = -n) (hp0 : 0 ≤ p) : p * (t * p - t + 1) ≤ t * n * n + 2 * k * n - (t - 1) * n ∧ 0 ≤ p * (t * p - t + 1) := by
  constructor
  · rcases hp with rfl | rfl
    · have a := Int.mul_nonneg hp0 (show 0 ≤ 2 * k by omega)
      have e : t * p * p + 2 * k * p - (t - 1) * p - p * (t * p - t + 1) = p * (2 * k) := by grind
      omega
    · have a := Int.mul_nonneg hp0 (show 0 ≤ 2 * (t - 1) - 2 * k by omega)
      have e : t * n * n + 2 * k * n - (t - 1) * n - -n * (t * -n - t + 1) = -n * (2 * (t - 1) - 2 * k) := by grind
      omega
  · by_cases z : p = 0
    · rw [z]; grind
    · have a := Int.mul_nonneg (show 0 ≤ t by omega) (show 0 ≤ p - 1 by omega)
      have e : t * p - t + 1 = t * (p - 1) + 1 := by grind
      rw [e]
      exact Int.mul_nonneg hp0 (by omega)
theorem tw_lower {ns : List Int} {t L : Int} {j : Nat} (ht : 1 ≤ t) (hnl : (ns.length : Int) = t) (hL : 0 ≤ L) (hj : ns.getD j 0 = -L) : ∀ i : Nat, i ≤ ns.length → (if j < i then L * (t * L - t + 1) else 0) ≤ twM ns t i - (t - 1) * (ns.take i).sum
  | 0, _ => by
    rw [if_neg (Nat.not_lt_zero j)]
    show (0 : Int) ≤ 0 - (t - 1) * 0
    omega
  | i + 1, hi => by
    have ih := tw_lower ht hnl hL hj i (by omega)
    rw [List.take_succ_eq_append_getElem (by omega), List.sum_append, getD_elem]
    have e : [ns.getD i 0].sum = ns.getD i 0 := by simp
    rw [e]
    show _ ≤ twM ns t i + t * ns.getD i 0 * ns.getD i 0 + 2 * (i : Int) * ns.getD i 0 - (t - 1) * ((ns.take i).sum + ns.getD i 0)
    have e5 : (t - 1) * ((ns.take i).sum + ns.getD i 0) = (t - 1) * (ns.take i).sum + (t - 1) * ns.getD i 0 := Int.mul_add ..
    rw [e5]
    by_cases z : j = i
    · subst z
      rw [if_neg (Nat.lt_irrefl j)] at ih
      rw [if_pos (Nat.lt_succ_self j)]
      have a := (term_lo (t := t) (n := ns.getD j 0) (k := (j : Int)) (p := L) ht (by omega) (by omega) (.inr (by omega)) hL).1
      omega
    · have b : 0 ≤ t * ns.getD i 0 * ns.getD i 0 + 2 * (i : Int) * ns.getD i 0 - (t - 1) * ns.getD i 0 := by
        by_cases y : 0 ≤ ns.getD i 0
        · have a := term_lo (t := t) (n := ns.getD i 0) (k := (i : Int)) (p := ns.getD i 0) ht (by omega) (by omega) (.inl rfl) y
          omega
        · have a := term_lo (t := t) (n := ns.getD i 0) (k := (i : Int)) (p := -ns.getD i 0) ht (by omega) (by omega) (.inr rfl) (by omega)
          omega
      by_cases y : j < i
      · rw [if_pos y] at ih
        rw [if_pos (by omega)]
        omega
      · rw [if_neg y] at ih
        rw [if_neg (by omega)]
        omega
theorem rod_le_PL {ns : List Int} {t s : Int} {k : Nat} : ∀ {i : Nat}, k < i → (s + ns.getD k 0).toNat ≤ (PL ns t s i).length
  | 0, h => absurd h (Nat.not_lt_zero k)
  | i + 1, h => by
    rw [PL_succ, List.length_append, rod_len]
    by_cases z : k = i
    · subst z; omega
    · have := rod_le_PL (ns := ns) (t := t) (s := s) (k := k) (i := i) (by omega)
      omega
theorem core_ok {r : List Int} {t : Int} (hr : IsRow r) (hs60 : r.sum ≤ 60) (h1 : 1 ≤ t) (h8 : t ≤ 8) : CoreOk r t := by
  have hcl := charges_len r t
  have hsum := charges_sum (r := r) h1
  have hm := share_mul r h1
  have hlen := row_len hr
  have hlo : ∀ k : Nat, k < (chargesM r t).length → 0 ≤ shareM r t + (chargesM r t).getD k 0 := fun k hk => charges_lo (by rw [hcl] at hk; exact hk)
  have hle := core_le hr h1
  have h0s : 0 ≤ shareM r t := by
    unfold shareM
    exact Int.ediv_nonneg (by omega) (by omega)
  have hs68 : shareM r t ≤ 68 := by
    have := Int.mul_le_mul_of_nonneg_left h1 h0s
    omega
  refine ⟨fun x hx => ?_, hsum, ?_⟩
  · obtain ⟨k, hk, e⟩ := List.getElem_of_mem hx
    have hk' := hk
    rw [hcl] at hk'
    rw [← e, getD_elem hk, charges_at hk']
    have := hOn_len (beadsM r (shareM r t * t).toNat) t (0 + (k : Int))
    rw [beads_len] at this
    omega
  · rw [← hcl]
    unfold coreM at hle
    obtain ⟨ns, hns⟩ : ∃ ns, ns = chargesM r t := ⟨_, rfl⟩
    rw [← hns] at hcl hsum hlo hle ⊢
    have hnl : (ns.length : Int) = t := by omega
    have hn1 : 1 ≤ ns.length := by omega
    have hsz := core_sizeS hn1 hlo hsum
    obtain ⟨L, hL⟩ : ∃ L, L = leastM ns (empties ns.length) := ⟨_, rfl⟩
    have hge : ∀ k : Nat, k < ns.length → 0 ≤ L + ns.getD k 0 := fun k hk => by rw [hL]; exact lacks_ge hk
    have hmm := maxI_mem (l := lacksM ns (empties ns.length)) (by intro z; have := lacks_len ns (empties ns.length); rw [z, empties_len] at this; simp at this; omega)
    obtain ⟨j, hj, ej⟩ := List.mem_map.mp hmm
    have hj' := List.mem_range.mp hj
    rw [empties_len] at hj'
    rw [empties_at] at ej
    have ej2 : ns.getD j 0 = -L := by
      have e' : ((([] : List Int).length : Nat) : Int) = 0 := rfl
      rw [e'] at ej
      rw [hL]
      unfold leastM
      omega
    have hpl := PL_len (ns := ns) (t := t) (s := L) (i := ns.length) (Nat.le_refl _) hge
    rw [List.take_length, hsum, hnl] at hpl
    have hL0 : 0 ≤ L := by
      by_cases z : 0 ≤ L
      · exact z
      · have := Int.mul_le_mul_of_nonneg_right (show L ≤ -1 by omega) (show 0 ≤ t by omega)
        omega
    have hlow := tw_lower h1 hnl hL0 ej2 ns.length (Nat.le_refl _)
    rw [if_pos hj', List.take_length, hsum] at hlow
    rw [hnl] at hsz
    have h64 : L * t < 64 := by
      by_cases z : L * t < 64
      · exact z
      · have hL8 : 8 ≤ L := by
          by_cases y : 8 ≤ L
          · exact y
          · have := Int.mul_le_mul (show L ≤ 7 by omega) h8 (show 0 ≤ t by omega) (by decide)
            omega
        have a := Int.mul_le_mul_of_nonneg_right hL8 (show 0 ≤ t * L - t + 1 by have := Int.mul_comm t L; omega)
        have := Int.mul_comm t L
        omega
    have ep : placesM ns (empties ns.length) = PL ns t L ns.length := by
      unfold placesM
      rw [empties_len, places_PL, hnl, hL]
    refine ⟨empties_len _, by rw [empties_len]; exact hn1, by rw [empties_len]; omega, fun x hx => ?_, ?_, ?_⟩
    · obtain ⟨k, hk, e⟩ := List.getElem_of_mem hx
      rw [← hL, ← e, getD_elem hk]
      have := rod_le_PL (ns := ns) (t := t) (s := L) (k := k) (i := ns.length) hk
      omega
    · rw [ep]; omega
    · rw [ep]
      exact up_rise (PL_up (by omega)) (PL_pos (by omega))

theorem rowOf_isRow {l : List Int} (h : Rise l) : IsRow (rowOfM l) := by
  refine isRow_iff.mpr ⟨fun x hx => ?_, ?_⟩
  · unfold rowOfM at hx
    have := of_decide_eq_true (List.mem_filter.mp hx).2
    omega
  · unfold rowOfM
    refine List.Pairwise.filter _ ?_
    rw [List.pairwise_reverse]
    exact (gapsOf_up h).2
theorem mem_hOn {S : List Int} {t k y : Int} (ht : 1 ≤ t) (h0 : 0 ≤ k) (hk : k < t) : y ∈ hOn S t k ↔ y * t + k ∈ S := by
  unfold hOn
  rw [List.mem_map]
  constructor
  · rintro ⟨x, hx, rfl⟩
    obtain ⟨a, b⟩ := List.mem_filter.mp hx
    have b := of_decide_eq_true b
    have f := Int.emod_add_mul_ediv x t
    have := Int.mul_comm t (x / t)
    have e : x / t * t + k = x := by omega
    rw [e]; exact a
  · intro h
    have m := hk_mod (t := t) (h := y) (k := k) h0 hk
    exact ⟨_, List.mem_filter.mpr ⟨h, decide_eq_true m.1⟩, m.2⟩
theorem hOn_up {S : List Int} {t : Int} {k : Nat} (ht : 1 ≤ t) (h : Up S) : Up (hOn S t (0 + (k : Int))) := by
  unfold hOn
  rw [Up, List.pairwise_map]
  refine (h.filter _).imp_of_mem fun {a b} ha hb hab => ?_
  have a1 := of_decide_eq_true (List.mem_filter.mp ha).2
  have b1 := of_decide_eq_true (List.mem_filter.mp hb).2
  have f1 := Int.emod_add_mul_ediv a t
  have f2 := Int.emod_add_mul_ediv b t
  refine Int.lt_of_mul_lt_mul_left (a := t) ?_ (by omega)
  omega
theorem hOn_pos {S : List Int} {t : Int} {k : Nat} (ht : 1 ≤ t) (h : ∀ x ∈ S, 0 ≤ x) : ∀ y ∈ hOn S t (0 + (k : Int)), 0 ≤ y := fun y hy => by
  unfold hOn at hy
  obtain ⟨x, hx, rfl⟩ := List.mem_map.mp hy
  exact Int.ediv_nonneg (h x (List.mem_filter.mp hx).1) (by omega)
def quotM (r : List Int) (t : Int) : List (List Int) := (partedM r t).map rowOfM
def spQuotX (K : PySem.W.Frag) (C : Addr) : Sp := fun vs H Q E => ∃ (a : Addr) (r : List Int) (t : Int), vs = [.ref a, .int t] ∧ SqL K H a (r.map V.int) ∧ IsRow r ∧ r.length ≤ 100 ∧ (BadRods t → E (.ref C) none H) ∧
  (1 ≤ t → t ≤ 8 → ∀ (p : Addr) (ps : List Addr) (H' : Hp), Same H H' → H p = none → LL H H' p ps (quotM r t) → Q (.ref p) H')
def spQuot (K : PySem.W.Frag) : Sp := fun vs H Q _ => ∃ (a : Addr) (r : List Int) (t : Int), vs = [.ref a, .int t] ∧ SqL K H a (r.map V.int) ∧ IsRow r ∧ r.length ≤ 100 ∧ 1 ≤ t ∧ t ≤ 8 ∧
  ∀ (p : Addr) (ps : List Addr) (H' : Hp), Same H H' → H p = none → LL H H' p ps (quotM r t) → Q (.ref p) H'
theorem quot_len (r : List Int) (t : Int) : (quotM r t).length = t.toNat := by unfold quotM; rw [List.length_map, parted_len]
theorem quot_at {r : List Int} {t : Int} {k : Nat} (h : k < t.toNat) : (quotM r t).getD k [] = rowOfM ((partedM r t).getD k []) := by
  unfold quotM
  have h' : k < (partedM r t).length := by rw [parted_len]; exact h
  rw [List.getD_eq_getElem?_getD, List.getElem?_map, List.getElem?_eq_getElem h', List.getD_eq_getElem?_getD, List.getElem?_eq_getElem h']
  rfl
theorem part_facts {r : List Int} {t : Int} (hr : IsRow r) (h1 : 1 ≤ t) {k : Nat} (hk : k < t.toNat) : Rise ((partedM r t).getD k []) ∧ (((partedM r t).getD k []).length : Int) ≤ (r.length : Int) + t - 1 ∧ ∀ B : Int, (∀ x ∈ r, x ≤ B) → 0 ≤ B → ∀ y ∈ (partedM r t).getD k [], y ≤ (r.length : Int) + t - 1 + B := by
  have hpos := isRow_pos hr
  have hm := share_mul r h1
  rw [parted_at hk]
  obtain ⟨S, hS⟩ : ∃ S, S = beadsM r (shareM r t * t).toNat := ⟨_, rfl⟩
  have hSr : Rise S := by
    rw [hS]
    exact beads_rise (fun x hx => by have := hpos x hx; omega) (isRow_pair hr) (by omega)
  have hS0 : ∀ x ∈ S, 0 ≤ x := fun x hx => by
    obtain ⟨i, hi, e⟩ := List.getElem_of_mem hx
    rw [← e, getD_elem hi]
    exact rise_pos hSr i hi
  rw [← hS]
  refine ⟨up_rise (hOn_up h1 (rise_up hSr)) (hOn_pos h1 hS0), ?_, fun B hB hB0 y hy => ?_⟩
  · have := hOn_len S t (0 + (k : Int))
    have e : S.length = (shareM r t * t).toNat := by rw [hS, beads_len]
    omega
  · unfold hOn at hy
    obtain ⟨x, hx, rfl⟩ := List.mem_map.mp hy
    have hxS := (List.mem_filter.mp hx).1
    have hx0 := hS0 x hxS
    have hle : x / t ≤ x := Int.ediv_le_self _ hx0
    obtain ⟨i, hi, e⟩ := List.getElem_of_mem hxS
    have hi' : i < (shareM r t * t).toNat := by rw [hS, beads_len] at hi; exact hi
    rw [getD_elem hi] at e
    have e2 : S.getD i 0 = (i : Int) + (gapsM r (shareM r t * t).toNat).getD i 0 := by rw [hS]; exact beads_at hi'
    have g : (gapsM r (shareM r t * t).toNat).getD i 0 ≤ B := by
      have hgl := gaps_len (r := r) (m := (shareM r t * t).toNat) (by omega)
      have m : (gapsM r (shareM r t * t).toNat).getD i 0 ∈ gapsM r (shareM r t * t).toNat := by rw [← getD_elem (by omega)]; exact List.getElem_mem _
      unfold gapsM at m
      rcases List.mem_append.mp m with z | z
      · have := (List.mem_replicate.mp z).2
        unfold gapsM
        omega
      · exact hB _ (List.mem_reverse.mp z)
    omega
def lshareM (r : List Int) (t : Int) : Int := 1 + (r.length : Int) / t
theorem core_isRow {r : List Int} {t : Int} (ht : 1 ≤ t) : IsRow (coreM r t) := by
  have hcl := charges_len r t
  have hlo : ∀ k : Nat, k < (chargesM r t).length → 0 ≤ shareM r t + (chargesM r t).getD k 0 := fun k hk => charges_lo (r := r) (t := t) (k := k) (by omega)
  have e : ((chargesM r t).length : Int) = t := by omega
  unfold coreM
  rw [core_any (by omega) hlo, e, hcl]
  exact rowOf_isRow (up_rise (PL_up (by omega)) (PL_pos (by omega)))
theorem beads_up {r : List Int} {m : Nat} (hr : IsRow r) (hm : r.length ≤ m) : Up (beadsM r m) ∧ ∀ x ∈ beadsM r m, 0 ≤ x := by
  have h := beads_rise (r := r) (m := m) (fun x hx => by have := isRow_pos hr x hx; omega) (isRow_pair hr) hm
  refine ⟨rise_up h, fun x hx => ?_⟩
  obtain ⟨i, hi, e⟩ := List.getElem_of_mem hx
  rw [← e, getD_elem hi]
  exact rise_pos h i hi
theorem mem_places {ns : List Int} {rows : List (List Int)} {l x : Int} : ∀ {i : Nat}, x ∈ placesTo ns rows l i ↔ ∃ (k : Nat) (h : Int), k < i ∧ h ∈ beadsM (rows.getD k []) (l + ns.getD k 0).toNat ∧ x = h * (rows.length : Int) + (k : Int)
  | 0 => ⟨fun h => absurd h (by show ¬ x ∈ []; simp), fun ⟨k, h, hk, _⟩ => absurd hk (Nat.not_lt_zero k)⟩
  | i + 1 => by
    rw [placesTo_succ, List.mem_append, mem_places (i := i), List.mem_map]
    constructor
    · rintro (⟨k, h, hk, a, b⟩ | ⟨h, a, b⟩)
      · exact ⟨k, h, by omega, a, b⟩
      · exact ⟨i, h, by omega, a, b.symm⟩
    · rintro ⟨k, h, hk, a, b⟩
      by_cases z : k = i
      · subst z; exact .inr ⟨h, a, b.symm⟩
      · exact .inl ⟨k, h, by omega, a, b⟩
structure RowsOk (ns : List Int) (rows : List (List Int)) (l : Int) : Prop where
  row : ∀ k : Nat, k < rows.length → IsRow (rows.getD k [])
  len : ∀ k : Nat, k < rows.length → ((rows.getD k []).length : Int) ≤ l + ns.getD k 0
theorem places_nodup {ns : List Int} {rows : List (List Int)} {l : Int} (R : RowsOk ns rows l) : ∀ {i : Nat}, i ≤ rows.length → (placesTo ns rows l i).Nodup
  | 0, _ => List.nodup_nil
  | i + 1, h => by
    rw [placesTo_succ, List.nodup_append]
    have u := (beads_up (m := (l + ns.getD i 0).toNat) (R.row i (by omega)) (by have := R.len i (by omega); omega)).1
    refine ⟨places_nodup R (by omega), ?_, fun a ha b hb e => ?_⟩
    · refine List.nodup_iff_pairwise_ne.mpr (List.pairwise_map.mpr (u.imp fun {x y} hxy e => ?_))
      have a1 := (hk_mod (t := (rows.length : Int)) (h := x) (k := (i : Int)) (by omega) (by omega)).2
      have a2 := (hk_mod (t := (rows.length : Int)) (h := y) (k := (i : Int)) (by omega) (by omega)).2
      rw [e, a2] at a1
      omega
    · obtain ⟨k, x, hk, _, rfl⟩ := mem_places.mp ha
      obtain ⟨y, _, rfl⟩ := List.mem_map.mp hb
      have a1 := (hk_mod (t := (rows.length : Int)) (h := x) (k := (k : Int)) (by omega) (by omega)).1
      have a2 := (hk_mod (t := (rows.length : Int)) (h := y) (k := (i : Int)) (by omega) (by omega)).1
      rw [e, a2] at a1
      omega
theorem places_pos {ns : List Int} {rows : List (List Int)} {l : Int} (R : RowsOk ns rows l) {i : Nat} (hi : i ≤ rows.length) : ∀ x ∈ placesTo ns rows l i, 0 ≤ x := fun x hx => by
  obtain ⟨k, h, hk, a, rfl⟩ := mem_places.mp hx
  have := (beads_up (m := (l + ns.getD k 0).toNat) (R.row k (by omega)) (by have := R.len k (by omega); omega)).2 h a
  have := Int.mul_nonneg this (show (0 : Int) ≤ (rows.length : Int) by omega)
  omega
theorem places_len {ns : List Int} {rows : List (List Int)} {l : Int} (R : RowsOk ns rows l) (hn : rows.length = ns.length) : ∀ {i : Nat}, i ≤ rows.length → ((placesTo ns rows l i).length : Int) = l * (i : Int) + (ns.take i).sum
  | 0, _ => by show ((0 : Nat) : Int) = l * 0 + 0; omega
  | i + 1, hi => by
    have a := places_len R hn (i := i) (by omega)
    have b := R.len i (by omega)
    rw [placesTo_succ, List.length_append, List.length_map, beads_len, List.take_succ_eq_append_getElem (by omega), List.sum_append, getD_elem]
    have e : [ns.getD i 0].sum = ns.getD i 0 := by simp
    have e2 : l * ((i + 1 : Nat) : Int) = l * (i : Int) + l := by grind
    rw [e, e2]
    omega
theorem rod_le_places {ns : List Int} {rows : List (List Int)} {l : Int} {k : Nat} : ∀ {i : Nat}, k < i → (l + ns.getD k 0).toNat ≤ (placesTo ns rows l i).length
  | 0, h => absurd h (Nat.not_lt_zero k)
  | i + 1, h => by
    rw [placesTo_succ, List.length_append, List.length_map, beads_len]
    by_cases z : k = i
    · subst z; omega
    · have := rod_le_places (ns := ns) (rows := rows) (l := l) (k := k) (i := i) (by omega)
      omega
theorem rows_ok {ns : List Int} {rows : List (List Int)} (hrow : ∀ k : Nat, k < rows.length → IsRow (rows.getD k [])) : RowsOk ns rows (leastM ns rows) := ⟨hrow, fun k hk => lacks_le hk⟩
theorem laid_ok {ns : List Int} {rows : List (List Int)} (hn : rows.length = ns.length) (h1 : 1 ≤ rows.length) (h8 : rows.length ≤ 8) (hs : ns.sum = 0) (hrow : ∀ k : Nat, k < rows.length → IsRow (rows.getD k []))
    (h64 : leastM ns rows * (rows.length : Int) < 100) : LaidOk ns rows := by
  have R := rows_ok (ns := ns) hrow
  have hl := places_len R hn (Nat.le_refl _)
  rw [hn, List.take_length, hs, ← hn] at hl
  refine ⟨hn, h1, h8, fun x hx => ?_, ?_, ?_⟩
  · obtain ⟨k, hk, e⟩ := List.getElem_of_mem hx
    rw [← e, getD_elem hk]
    have := rod_le_places (ns := ns) (rows := rows) (l := leastM ns rows) (k := k) (i := rows.length) (by omega)
    omega
  · unfold placesM; omega
  · exact up_rise (sort_strict (places_nodup R (Nat.le_refl _))) fun x hx => places_pos R (Nat.le_refl _) x (mem_sort.mp hx)
theorem places_shift {ns : List Int} {rows : List (List Int)} {s1 s2 : Int} (h1 : 1 ≤ rows.length) (hs : s1 ≤ s2) (R1 : RowsOk ns rows s1) :
    sortI (placesTo ns rows s2 rows.length) = shiftI ((s2 - s1) * (rows.length : Int)).toNat (sortI (placesTo ns rows s1 rows.length)) := by
  have R2 : RowsOk ns rows s2 := ⟨R1.row, fun k hk => by have := R1.len k hk; omega⟩
  obtain ⟨t, ht⟩ : ∃ t : Int, t = (rows.length : Int) := ⟨_, rfl⟩
  have hD : 0 ≤ (s2 - s1) * t := Int.mul_nonneg (by omega) (by omega)
  have hDt : ((((s2 - s1) * t).toNat : Nat) : Int) = (s2 - s1) * t := by omega
  have bs : ∀ k : Nat, k < rows.length → beadsM (rows.getD k []) (s2 + ns.getD k 0).toNat = shiftI (s2 - s1).toNat (beadsM (rows.getD k []) (s1 + ns.getD k 0).toNat) := fun k hk => by
    have := R1.len k hk
    rw [beads_shift (m := (s1 + ns.getD k 0).toNat) (n := (s2 + ns.getD k 0).toNat) (by omega) (by omega)]
    congr 1
    omega
  refine up_eq (sort_strict (places_nodup R2 (Nat.le_refl _))) (shift_up (sort_strict (places_nodup R1 (Nat.le_refl _))) fun x hx => places_pos R1 (Nat.le_refl _) x (mem_sort.mp hx)) fun x => ?_
  rw [mem_sort, mem_places, mem_shift, mem_sort, mem_places, ← ht, hDt]
  constructor
  · rintro ⟨k, h, hk, hh, rfl⟩
    rw [bs k hk, mem_shift] at hh
    rcases hh with ⟨a, b⟩ | a
    · left
      have h3 : h ≤ s2 - s1 - 1 := by omega
      have h4 := Int.mul_le_mul_of_nonneg_right h3 (show 0 ≤ t by omega)
      have h5 : (s2 - s1 - 1) * t = (s2 - s1) * t - t := by grind
      have h6 := Int.mul_nonneg a (show 0 ≤ t by omega)
      omega
    · right
      refine ⟨k, _, hk, a, ?_⟩
      have : (((s2 - s1).toNat : Nat) : Int) = s2 - s1 := by omega
      rw [this]
      grind
  · rintro (⟨a, b⟩ | ⟨k, h, hk, hh, e⟩)
    · have m1 := Int.emod_nonneg x (show t ≠ 0 by omega)
      have m2 := Int.emod_lt_of_pos x (show 0 < t by omega)
      have m3 := Int.emod_add_mul_ediv x t
      have q1 : 0 ≤ x / t := Int.ediv_nonneg a (by omega)
      have q2 : x / t < s2 - s1 := Int.lt_of_mul_lt_mul_right (a := t) (by rw [Int.mul_comm (x / t) t]; omega) (by omega)
      refine ⟨(x % t).toNat, x / t, by omega, ?_, ?_⟩
      · rw [bs _ (by omega), mem_shift]
        exact .inl ⟨q1, by omega⟩
      · rw [Int.mul_comm]
        omega
    · refine ⟨k, h + (s2 - s1), hk, ?_, ?_⟩
      · rw [bs k hk, mem_shift]
        right
        have : h + (s2 - s1) - (((s2 - s1).toNat : Nat) : Int) = h := by omega
        rw [this]
        exact hh
      · have : (h + (s2 - s1)) * t = h * t + (s2 - s1) * t := by grind
        rw [this]
        omega
theorem laid_any {ns : List Int} {rows : List (List Int)} {s : Int} (h1 : 1 ≤ rows.length) (hrow : ∀ k : Nat, k < rows.length → IsRow (rows.getD k [])) (hs : leastM ns rows ≤ s) :
    laidM ns rows = rowOfM (sortI (placesTo ns rows s rows.length)) := by
  rw [places_shift h1 hs (rows_ok hrow), rowOf_shift]
  rfl
theorem least_le {ns : List Int} {rows : List (List Int)} {s : Int} (h1 : 1 ≤ rows.length) (h : ∀ k : Nat, k < rows.length → ((rows.getD k []).length : Int) ≤ s + ns.getD k 0) : leastM ns rows ≤ s := by
  have hmm := maxI_mem (l := lacksM ns rows) (by intro z; have := lacks_len ns rows; rw [z] at this; simp at this; omega)
  obtain ⟨j, hj, ej⟩ := List.mem_map.mp hmm
  have := h j (List.mem_range.mp hj)
  unfold leastM
  omega
theorem part_len {r : List Int} {t : Int} {k : Nat} (hk : k < t.toNat) : (((partedM r t).getD k []).length : Int) = shareM r t + (chargesM r t).getD k 0 := by
  rw [charges_at hk, parted_at hk]
  omega
theorem filt_sum (t k : Int) : ∀ l : List Int, (l.filter fun x => decide (x % t = k)).sum = t * (hOn l t k).sum + k * ((hOn l t k).length : Int)
  | [] => by show (0 : Int) = t * 0 + k * 0; omega
  | x :: l => by
    have ih := filt_sum t k l
    unfold hOn at ih ⊢
    by_cases z : x % t = k
    · rw [List.filter_cons_of_pos (by simpa using z), List.sum_cons, List.map_cons, List.sum_cons, List.length_cons, ih]
      have := Int.emod_add_mul_ediv x t
      have e : ((((l.filter fun p => decide (p % t = k)).map fun p => p / t).length + 1 : Nat) : Int) = (((l.filter fun p => decide (p % t = k)).map fun p => p / t).length : Int) + 1 := by omega
      rw [e]
      grind
    · rw [List.filter_cons_of_neg (by simpa using z)]
      exact ih
theorem arith1 {P R Q u v w y t i : Int} (ih : 2 * P - 2 * R = t * (2 * Q)) (c : 2 * w = 2 * u - v * (v - 1)) (b : 2 * y = t * v * (v - 1) + 2 * i * v) : 2 * (P + (t * u + i * v)) - 2 * (R + y) = t * (2 * (Q + w)) := by
  have c' : 2 * u = 2 * w + v * (v - 1) := by omega
  have h0 : 2 * (t * u) = t * (2 * u) := by grind
  have h1 : t * (2 * w + v * (v - 1)) = t * (2 * w) + t * v * (v - 1) := by grind
  have h2 : t * (2 * (Q + w)) = t * (2 * Q) + t * (2 * w) := by grind
  have h3 : 2 * (P + (t * u + i * v)) = 2 * P + 2 * (t * u) + 2 * i * v := by grind
  rw [c', h1] at h0
  rw [h2, h3, h0]
  omega
theorem arith2 {rs cs SP RP Q t N : Int} (a : 2 * rs = 2 * SP - N * (N - 1)) (b : 2 * cs = 2 * RP - (N + 0) * (N + 0 - 1)) (c : 2 * SP - 2 * RP = t * (2 * Q)) : cs + t * Q = rs := by
  rw [Int.add_zero] at b
  have : t * (2 * Q) = 2 * (t * Q) := by grind
  omega
theorem size_split {r : List Int} {t : Int} (hr : IsRow r) (ht : 1 ≤ t) : (coreM r t).sum + t * ((quotM r t).map fun q => q.sum).sum = r.sum := by
  have hcl := charges_len r t
  have hql := quot_len r t
  have hm := share_mul r ht
  have etn : ((t.toNat : Nat) : Int) = t := by omega
  have ecl : ((chargesM r t).length : Int) = t := by omega
  obtain ⟨s, hs⟩ : ∃ s, s = shareM r t := ⟨_, rfl⟩
  obtain ⟨S, hS⟩ : ∃ S, S = beadsM r (s * t).toNat := ⟨_, rfl⟩
  rw [← hs] at hm
  have hb := beads_up (m := (s * t).toNat) hr (by omega)
  rw [← hS] at hb
  have hSl : (S.length : Int) = s * t := by rw [hS, beads_len]; omega
  have rS := rowOf_sum (up_rise hb.1 hb.2)
  have eS : rowOfM S = r := by rw [hS]; exact rowOf_beads (isRow_pos hr) (by omega)
  rw [eS, hSl] at rS
  have hlo : ∀ k : Nat, k < (chargesM r t).length → 0 ≤ s + (chargesM r t).getD k 0 := fun k hk => by rw [hs]; exact charges_lo (by omega)
  have eC : coreM r t = rowOfM (sortI (PL (chargesM r t) t s (chargesM r t).length)) := by
    unfold coreM
    rw [core_any (by omega) hlo, ecl]
  have rC := rowOf_sum (up_rise (PL_up (ns := chargesM r t) (t := t) (s := s) (i := (chargesM r t).length) (by omega)) (PL_pos (by omega)))
  have pC := PL_len (ns := chargesM r t) (t := t) (s := s) (i := (chargesM r t).length) (Nat.le_refl _) hlo
  rw [List.take_length, charges_sum ht, ecl] at pC
  rw [← eC, (sortI_perm _).length_eq, perm_sum (sortI_perm _), pC, PL_sums, hcl] at rC
  have sS := rods_sum ht S
  rw [← sS] at rS
  have key : ∀ i : Nat, i ≤ t.toNat → 2 * ((List.range i).map fun (k : Nat) => (S.filter fun x => decide (x % t = 0 + (k : Int))).sum).sum - 2 * ((List.range i).map fun (k : Nat) => (rodP t s ((chargesM r t).getD k 0) k).sum).sum = t * (2 * ((List.range i).map fun (k : Nat) => ((quotM r t).getD k []).sum).sum) := fun i => by
    induction i with
    | zero => intro _; show 2 * (0 : Int) - 2 * 0 = t * (2 * 0); omega
    | succ i ih =>
      intro hi
      have ih := ih (by omega)
      have hk : i < t.toNat := by omega
      have a := filt_sum t (0 + (i : Int)) S
      have b := rod_sum t s ((chargesM r t).getD i 0) i
      have c := rowOf_sum (part_facts hr ht hk).1
      have d := part_len (r := r) hk
      rw [← hs] at d
      have e : (partedM r t).getD i [] = hOn S t (0 + (i : Int)) := by rw [parted_at hk, ← hs, ← hS]
      rw [e] at c d
      have f : (quotM r t).getD i [] = rowOfM (hOn S t (0 + (i : Int))) := by rw [quot_at hk, e]
      have g : (((s + (chargesM r t).getD i 0).toNat : Nat) : Int) = ((hOn S t (0 + (i : Int))).length : Int) := by omega
      rw [g] at b
      rw [List.range_succ, List.map_append, List.map_append, List.map_append, List.sum_append, List.sum_append, List.sum_append]
      simp only [List.map_cons, List.map_nil, List.sum_cons, List.sum_nil, Int.add_zero]
      rw [f, a]
      rw [Int.zero_add] at c b ⊢
      exact arith1 ih c b
  have k2 := key t.toNat (Nat.le_refl _)
  have eq : (quotM r t).map (fun q => q.sum) = (List.range t.toNat).map fun (k : Nat) => ((quotM r t).getD k []).sum := by
    refine List.ext_getElem (by rw [List.length_map, List.length_map, List.length_range, hql]) fun k h1 h2 => ?_
    rw [List.getElem_map, List.getElem_map, List.getElem_range]
    rw [List.length_map] at h1
    rw [List.getD_eq_getElem?_getD, List.getElem?_eq_getElem h1]
    rfl
  rw [eq]
  exact arith2 rS rC k2

theorem nn_sum : ∀ {l : List Int}, (∀ x ∈ l, 0 ≤ x) → 0 ≤ l.sum
  | [], _ => Int.le_refl _
  | a :: l, h => by
    have := h a (List.mem_cons_self ..)
    have := nn_sum (l := l) fun x hx => h x (List.mem_cons_of_mem _ hx)
    rw [List.sum_cons]
    omega
theorem le_sum : ∀ {l : List Int}, (∀ x ∈ l, 0 ≤ x) → ∀ y ∈ l, y ≤ l.sum
  | [], _, y, h => by cases h
  | a :: l, h, y, hy => by
    have h1 := h a (List.mem_cons_self ..)
    have h2 := nn_sum (l := l) fun x hx => h x (List.mem_cons_of_mem _ hx)
    rw [List.sum_cons]
    rcases List.mem_cons.mp hy with z | z
    · omega
    · have := le_sum (l := l) (fun x hx => h x (List.mem_cons_of_mem _ hx)) y z
      omega
theorem row_sum {q : List Int} (h : IsRow q) : 0 ≤ q.sum ∧ ∀ x ∈ q, 1 ≤ x ∧ x ≤ q.sum := by
  have hp := isRow_pos h
  have hn : ∀ x ∈ q, 0 ≤ x := fun x hx => by have := hp x hx; omega
  exact ⟨nn_sum hn, fun x hx => ⟨hp x hx, le_sum hn x hx⟩⟩
theorem comp_lt {K : PySem.W.Frag} {a D : Addr} {r : List Int} {j : Int} {Q : VK} {H : Hp} (hS : SqL K H a (r.map V.int)) (hlen : r.length ≤ 1000) (hD : H D = none)
    (q : ∀ H', Same H H' → H' D = some (.lst ((r.filter fun n => decide (n < j)).map V.int)) → Q (.ref D) H') :
    CompW (Itl K a) (gName 0) (tTest (tOp (rI0 fun i j => .bl (decide (i < j))) (tVar 0) (tVar 1))) (tVar 0) Q D [none, some (.int j)] H := by
  have hl : (r.map V.int).length = r.length := List.length_map _
  refine comp_list (K := K) (a := a) (xs := r.map V.int) (fun i ys σ H2 => ∃ u : Option V, σ = [u, some (.int j)] ∧ Same H H2 ∧ H2 D = some (.lst ys) ∧ ys = ((r.take i).filter fun n => decide (n < j)).map V.int)
    ⟨none, rfl, same_new hD _, upd_same, rfl⟩ (fun i ys σ H2 _ ⟨_, _, s2, _⟩ => s2.seq hS) ?_ ?_
  · rintro i x ys σ H2 hi ⟨u, rfl, s2, hD2, rfl⟩
    have hil : i < (r.map V.int).length := (List.getElem?_eq_some_iff.mp hi).1
    rw [hl] at hil
    obtain rfl : x = V.int (r.getD i 0) := by
      rw [List.getElem?_map, getD_of hil] at hi
      exact (Option.some.inj hi).symm
    have step := take_succ_filter (fun n => decide (n < j)) r i (r.getD i 0) (getD_of hil)
    refine ⟨_, rfl, _, rfl, _, _, rfl, rfl, _, rfl, ?_⟩
    refine ite2 (fun c => ?_) (fun c => ?_)
    · refine ⟨_, rfl, hD2, ?_, _, rfl, same_upd s2 hD, upd_same, ?_⟩
      · have z := List.length_filter_le (fun n => decide (n < j)) (r.take i)
        rw [List.length_map]
        rw [List.length_take] at z
        exact small1000 (by omega)
      · rw [step, if_pos c, List.map_append]
        rfl
    · refine ⟨_, rfl, s2, hD2, ?_⟩
      rw [step, if_neg c, List.append_nil]
  · rintro ys σ H2 ⟨u, rfl, s2, hD2, rfl⟩
    refine q H2 s2 ?_
    rw [hl, List.take_length] at hD2
    exact hD2


def spLTold128 (K : PySem.W.Frag) : Sp := fun vs H Q _ => ∃ (a : Addr) (ps : List Int), vs = [.ref a] ∧ SqL K H a (ps.map V.int) ∧ ps.length < 128 ∧
  ∀ (p : Addr) (H' : Hp), Same H H' → H p = none → H' p = some (.lst ((toldM ps).map V.int)) → Q (.ref p) H'
theorem gaps_at {r : List Int} {m k : Nat} (hm : r.length ≤ m) (hk : k < m) : (gapsM r m).getD k 0 = if m - 1 - k < r.length then r.getD (m - 1 - k) 0 else 0 := by
  unfold gapsM
  by_cases z : k < m - r.length
  · rw [getD_appL (by rw [List.length_replicate]; exact z), rep_at, if_neg (by omega)]
  · rw [getD_appR (by rw [List.length_replicate]; omega), List.length_replicate, if_pos (by omega)]
    rw [List.getD_eq_getElem?_getD, List.getElem?_reverse (by omega), ← List.getD_eq_getElem?_getD]
    congr 1
    omega
theorem hOn_shiftL {l : List Int} {t e : Int} (ht : 1 ≤ t) (he : 0 ≤ e) (u : Up l) (h0 : ∀ x ∈ l, 0 ≤ x) {k : Nat} (hk : (k : Int) < t) : hOn (shiftI (e * t).toNat l) t (0 + (k : Int)) = shiftI e.toNat (hOn l t (0 + (k : Int))) := by
  have hd : 0 ≤ e * t := Int.mul_nonneg he (by omega)
  have e1 : (((e * t).toNat : Nat) : Int) = e * t := by omega
  have e2 : ((e.toNat : Nat) : Int) = e := by omega
  refine up_eq (hOn_up ht (shift_up u h0)) (shift_up (hOn_up ht u) (hOn_pos ht h0)) fun y => ?_
  rw [mem_hOn ht (by omega) (by omega), mem_shift, mem_shift, mem_hOn ht (by omega) (by omega), e1, e2, Int.zero_add]
  have e3 : (y - e) * t + (k : Int) = y * t + (k : Int) - e * t := by grind
  rw [e3]
  constructor
  · rintro (⟨a, b⟩ | a)
    · left
      constructor
      · by_cases z : 0 ≤ y
        · exact z
        · have := Int.mul_le_mul_of_nonneg_right (show y ≤ -1 by omega) (show 0 ≤ t by omega)
          omega
      · exact Int.lt_of_mul_lt_mul_right (a := t) (by omega) (by omega)
    · exact .inr a
  · rintro (⟨a, b⟩ | a)
    · left
      have h4 := Int.mul_le_mul_of_nonneg_right (show y ≤ e - 1 by omega) (show 0 ≤ t by omega)
      have h5 : (e - 1) * t = e * t - t := by grind
      have h6 := Int.mul_nonneg a (show 0 ≤ t by omega)
      omega
    · exact .inr a
theorem hOn_places {ns : List Int} {rows : List (List Int)} {s t : Int} (ht : t = (rows.length : Int)) (R : RowsOk ns rows s) {k : Nat} (hk : k < rows.length) : hOn (sortI (placesTo ns rows s rows.length)) t (0 + (k : Int)) = beadsM (rows.getD k []) (s + ns.getD k 0).toNat := by
  have ht1 : 1 ≤ t := by omega
  have hb := beads_up (m := (s + ns.getD k 0).toNat) (R.row k hk) (by have := R.len k hk; omega)
  refine up_eq (hOn_up ht1 (sort_strict (places_nodup R (Nat.le_refl _)))) hb.1 fun y => ?_
  rw [mem_hOn ht1 (by omega) (by omega), mem_sort, mem_places, Int.zero_add]
  constructor
  · rintro ⟨j, h, hj, a, e⟩
    have a1 := hk_mod (t := t) (h := y) (k := (k : Int)) (by omega) (by omega)
    have a2 := hk_mod (t := t) (h := h) (k := (j : Int)) (by omega) (by omega)
    rw [ht] at a1 a2
    rw [← ht] at e
    rw [← ht] at a1 a2
    rw [e] at a1
    have e1 := a1.1.symm.trans a2.1
    have e2 := a1.2.symm.trans a2.2
    obtain rfl : k = j := by omega
    rw [e2]
    exact a
  · intro h
    exact ⟨k, y, hk, h, by rw [ht]⟩
theorem back_parts {ns : List Int} {rows : List (List Int)} {s t : Int} (ht : t = (rows.length : Int)) (hn : rows.length = ns.length) (h1 : 1 ≤ rows.length) (hs : ns.sum = 0) (R : RowsOk ns rows s) {k : Nat} (hk : k < rows.length) :
    ∃ e : Int, 0 ≤ e ∧ e = s - shareM (rowOfM (sortI (placesTo ns rows s rows.length))) t ∧ beadsM (rows.getD k []) (s + ns.getD k 0).toNat = shiftI e.toNat ((partedM (rowOfM (sortI (placesTo ns rows s rows.length))) t).getD k []) := by
  have ht1 : 1 ≤ t := by omega
  obtain ⟨S, hS⟩ : ∃ S, S = sortI (placesTo ns rows s rows.length) := ⟨_, rfl⟩
  have hk1 := hOn_places ht R hk
  rw [← hS] at hk1 ⊢
  have hr : Rise S := by rw [hS]; exact up_rise (sort_strict (places_nodup R (Nat.le_refl _))) fun x hx => places_pos R (Nat.le_refl _) x (mem_sort.mp hx)
  have hl : ((S.length : Nat) : Int) = s * t := by
    rw [hS, (sortI_perm _).length_eq, places_len R hn (Nat.le_refl _), hn, List.take_length, hs, ← hn, ← ht]
    omega
  have hm := share_mul (rowOfM S) (t := t) ht1
  have hrl := rowOf_len S
  have hs6 : shareM (rowOfM S) t ≤ s := by
    have : shareM (rowOfM S) t < s + 1 := Int.lt_of_mul_lt_mul_right (a := t) (by rw [Int.add_mul]; omega) (by omega)
    omega
  have hmn : (shareM (rowOfM S) t * t).toNat ≤ S.length := by
    have := Int.mul_le_mul_of_nonneg_right hs6 (show 0 ≤ t by omega)
    omega
  have hsh := beads_shift (r := rowOfM S) (m := (shareM (rowOfM S) t * t).toNat) (n := S.length) (by omega) hmn
  rw [beads_rowOf hr] at hsh
  have hd : S.length - (shareM (rowOfM S) t * t).toNat = ((s - shareM (rowOfM S) t) * t).toNat := by
    have e : (s - shareM (rowOfM S) t) * t = s * t - shareM (rowOfM S) t * t := by grind
    rw [e]
    omega
  rw [hd] at hsh
  have hb := beads_up (m := (shareM (rowOfM S) t * t).toNat) (rowOf_isRow hr) (by omega)
  refine ⟨s - shareM (rowOfM S) t, by omega, rfl, ?_⟩
  rw [← hk1, parted_at (by omega)]
  have := hOn_shiftL (e := s - shareM (rowOfM S) t) ht1 (by omega) hb.1 hb.2 (k := k) (by omega)
  rw [← hsh] at this
  exact this
theorem back_charges {ns : List Int} {rows : List (List Int)} {t : Int} (ht : t = (rows.length : Int)) (hn : rows.length = ns.length) (h1 : 1 ≤ rows.length) (hs : ns.sum = 0) (hrow : ∀ k : Nat, k < rows.length → IsRow (rows.getD k [])) : chargesM (laidM ns rows) t = ns := by
  have R := rows_ok (ns := ns) hrow
  have hL := laid_any (ns := ns) h1 hrow (Int.le_refl _)
  refine List.ext_getElem (by rw [charges_len]; omega) fun k a b => ?_
  have hk : k < rows.length := by omega
  obtain ⟨e, e0, he, hb⟩ := back_parts ht hn h1 hs R hk
  rw [← hL] at he hb
  have h2 := congrArg List.length hb
  rw [beads_len, shift_len] at h2
  have h3 := R.len k hk
  rw [getD_elem a, getD_elem b, charges_at (by omega), ← parted_at (by omega)]
  omega
theorem back_quot {ns : List Int} {rows : List (List Int)} {t : Int} (ht : t = (rows.length : Int)) (hn : rows.length = ns.length) (h1 : 1 ≤ rows.length) (hs : ns.sum = 0) (hrow : ∀ k : Nat, k < rows.length → IsRow (rows.getD k [])) : quotM (laidM ns rows) t = rows := by
  have R := rows_ok (ns := ns) hrow
  have hL := laid_any (ns := ns) h1 hrow (Int.le_refl _)
  refine List.ext_getElem (by rw [quot_len]; omega) fun k a b => ?_
  have hk : k < rows.length := b
  obtain ⟨e, e0, he, hb⟩ := back_parts ht hn h1 hs R hk
  rw [← hL] at he hb
  have h3 := R.len k hk
  have h2 := congrArg rowOfM hb
  rw [rowOf_shift, rowOf_beads (isRow_pos (hrow k hk)) (by omega), ← quot_at (by omega)] at h2
  have e1 : (quotM (laidM ns rows) t)[k]'a = (quotM (laidM ns rows) t).getD k [] := by rw [List.getD_eq_getElem?_getD, List.getElem?_eq_getElem a]; rfl
  have e2 : rows[k]'b = rows.getD k [] := by rw [List.getD_eq_getElem?_getD, List.getElem?_eq_getElem b]; rfl
  rw [e1, e2, ← h2]
structure Drawn8 (ns : List Int) (rows : List (List Int)) (t : Int) : Prop where
  nl : (ns.length : Int) = t
  rl : (rows.length : Int) = t
  h1 : 1 ≤ t
  h8 : t ≤ 8
  bd : ∀ x ∈ ns, -6 ≤ x ∧ x ≤ 6
  sum : ns.sum = 0
  tw : twM ns t t.toNat ≤ 120
  row : ∀ k : Nat, k < rows.length → IsRow (rows.getD k [])
  few : ∀ k : Nat, k < rows.length → (rows.getD k []).sum ≤ 7
structure Join8 (ns : List Int) (rows : List (List Int)) (t : Int) : Prop where
  crow : IsRow (coreOfM ns)
  csum : (coreOfM ns).sum ≤ 60
  cch : chargesM (coreOfM ns) t = ns
  cc : coreM (coreOfM ns) t = coreOfM ns
  laid0 : LaidOk ns (empties ns.length)
  laid : LaidOk ns rows
  frow : IsRow (laidM ns rows)
  fch : chargesM (laidM ns rows) t = ns
  fq : quotM (laidM ns rows) t = rows
  fc : coreM (laidM ns rows) t = coreOfM ns
  fsum : (laidM ns rows).sum ≤ 600
  flen : (laidM ns rows).length ≤ 100
  told : toldM (placesTo ns rows 14 rows.length) = laidM ns rows
  plen : (placesTo ns rows 14 rows.length).length < 128
  rlen : ∀ k : Nat, k < rows.length → (rows.getD k []).length ≤ 7
theorem join8 {ns : List Int} {rows : List (List Int)} {t : Int} (D : Drawn8 ns rows t) : Join8 ns rows t := by
  have hnl := D.nl
  have hrl := D.rl
  have h1 := D.h1
  have h8 := D.h8
  have htn : t.toNat = ns.length := by omega
  have hn : rows.length = ns.length := by omega
  have csz := core_size (ns := ns) (by omega) D.bd D.sum
  have tw := D.tw
  rw [htn] at tw
  rw [hnl] at csz
  have hch := core_charges (ns := ns) (by omega) D.bd D.sum
  rw [hnl] at hch
  have hcc : coreM (coreOfM ns) t = coreOfM ns := by unfold coreM; rw [hch]
  have hcrow : IsRow (coreOfM ns) := by rw [← hcc]; exact core_isRow h1
  have rlen : ∀ k : Nat, k < rows.length → (rows.getD k []).length ≤ 7 := fun k hk => by
    have := row_len (D.row k hk)
    have := D.few k hk
    omega
  have R := rows_ok (ns := ns) D.row
  have hkey : leastM ns rows * (rows.length : Int) < 100 := by
    have hmm := maxI_mem (l := lacksM ns rows) (by intro z; have := lacks_len ns rows; rw [z] at this; simp at this; omega)
    obtain ⟨j, hj, ej⟩ := List.mem_map.mp hmm
    have hj' := List.mem_range.mp hj
    have h5j := rlen j hj'
    have hbj := D.bd (ns.getD j 0) (by rw [← getD_elem (show j < ns.length by omega)]; exact List.getElem_mem _)
    obtain ⟨M, hM⟩ : ∃ M, M = leastM ns rows := ⟨_, rfl⟩
    have ej2 : ns.getD j 0 = -(M - ((rows.getD j []).length : Int)) := by
      rw [hM]
      unfold leastM
      omega
    rw [← hM, hrl]
    obtain ⟨L, hL⟩ : ∃ L, L = M - ((rows.getD j []).length : Int) := ⟨_, rfl⟩
    rw [← hL] at ej2
    by_cases hL0 : 0 ≤ L
    · have hlow := tw_lower h1 hnl hL0 ej2 ns.length (Nat.le_refl _)
      rw [if_pos (by omega), List.take_length, D.sum] at hlow
      have hLL : L * (t * L - t + 1) ≤ 120 := by omega
      by_cases z : t = 8
      · subst z
        have : L ≤ 4 := by
          by_cases q : L ≤ 4
          · exact q
          · have a2 := Int.mul_le_mul (show 5 ≤ L by omega) (show 33 ≤ 8 * L - 8 + 1 by omega) (by decide) hL0
            omega
        omega
      · have := Int.mul_le_mul (show M ≤ 13 by omega) (show t ≤ 7 by omega) (by omega) (by decide)
        omega
    · have := Int.mul_le_mul_of_nonneg_right (show M ≤ 7 by omega) (show 0 ≤ t by omega)
      omega
  have laid : LaidOk ns rows := laid_ok hn (by omega) (by omega) D.sum D.row hkey
  have frow : IsRow (laidM ns rows) := rowOf_isRow laid.rise
  have flen : (laidM ns rows).length ≤ 100 := by
    have a := rowOf_len (sortI (placesM ns rows))
    have c := places_len R hn (Nat.le_refl _)
    rw [(sortI_perm _).length_eq] at a
    rw [hn, List.take_length, D.sum, ← hn] at c
    unfold placesM at a
    unfold laidM placesM
    omega
  have fch := back_charges (t := t) hrl.symm hn (by omega) D.sum D.row
  have fq := back_quot (t := t) hrl.symm hn (by omega) D.sum D.row
  have fc : coreM (laidM ns rows) t = coreOfM ns := by unfold coreM; rw [fch]
  have sz := size_split frow h1
  rw [fc, fq] at sz
  have qs : (rows.map fun q => q.sum).sum ≤ 56 := by
    have : (rows.map fun q => q.sum).sum ≤ (rows.map fun _ => (7 : Int)).sum := sum_map_le rows _ _ fun q hq => by
      obtain ⟨i, hi, e⟩ := List.getElem_of_mem hq
      have := D.few i hi
      rw [List.getD_eq_getElem?_getD, List.getElem?_eq_getElem hi] at this
      have e2 : (some rows[i]).getD [] = q := e
      rw [e2] at this
      exact this
    rw [sum_map_const] at this
    omega
  have qm := Int.mul_le_mul_of_nonneg_left qs (show 0 ≤ t by omega)
  have R14 : RowsOk ns rows 14 := ⟨D.row, fun k hk => by
    have := rlen k hk
    have := D.bd (ns.getD k 0) (by rw [← getD_elem (show k < ns.length by omega)]; exact List.getElem_mem _)
    omega⟩
  have l14 := laid_any (ns := ns) (s := 14) (by omega) D.row (least_le (by omega) R14.len)
  have p14 := places_len R14 hn (Nat.le_refl _)
  rw [hn, List.take_length, D.sum, ← hn] at p14
  exact ⟨hcrow, by omega, hch, hcc, core_laid (by omega) (by omega) D.bd D.sum, laid, frow, fch, fq, fc, by omega,
    flen, by rw [l14]; exact told_rowOf (places_nodup R14 (Nat.le_refl _)), by omega, rlen⟩

structure Chg (m : List Int) (t : Int) : Prop where
  len : (m.length : Int) = t
  bd : ∀ x ∈ m, -6 ≤ x ∧ x ≤ 6
  sum : m.sum = 0
  tw : twM m t t.toNat ≤ 120
theorem tw_zero (n : Nat) (t : Int) : ∀ i : Nat, twM (List.replicate n 0) t i = 0
  | 0 => rfl
  | i + 1 => by unfold twM; rw [tw_zero n t i, rep_at]; omega
theorem sum_zeros : ∀ n : Nat, (List.replicate n (0 : Int)).sum = 0
  | 0 => rfl
  | n + 1 => by rw [List.replicate_succ, List.sum_cons, sum_zeros n]; rfl
theorem chg_zero {t : Int} (h : 1 ≤ t) : Chg (List.replicate t.toNat 0) t :=
  ⟨by rw [List.length_replicate]; omega, fun x hx => by rw [(List.mem_replicate.mp hx).2]; decide, sum_zeros _, by rw [tw_zero]; decide⟩
theorem sum_set : ∀ {m : List Int} {j : Nat} {v : Int}, j < m.length → (m.set j v).sum = m.sum - m.getD j 0 + v
  | [], j, v, h => absurd h (Nat.not_lt_zero j)
  | x :: m, 0, v, _ => by
    show (v :: m).sum = (x :: m).sum - x + v
    rw [List.sum_cons, List.sum_cons]; omega
  | x :: m, j + 1, v, h => by
    show (x :: m.set j v).sum = (x :: m).sum - m.getD j 0 + v
    rw [List.sum_cons, List.sum_cons, sum_set (by rw [List.length_cons] at h; omega)]; omega
theorem set_get8 {f : List Int} {j i : Nat} {x : Int} (h : j < f.length) : (f.set j x).getD i 0 = if i = j then x else f.getD i 0 := by
  rw [List.getD_eq_getElem?_getD, List.getD_eq_getElem?_getD]
  by_cases z : i = j
  · subst z
    rw [if_pos rfl, List.getElem?_set_self h]
    rfl
  · rw [if_neg z, List.getElem?_set_ne (Ne.symm z)]
theorem ixN_ok {n : Nat} {k : Int} (h0 : 0 ≤ k) (h1 : k < (n : Int)) : ixN n k = some k.toNat := by
  unfold ixN
  rw [if_pos h0, if_pos h1]
def spChargesBy (K : PySem.W.Frag) : Sp := fun vs H Q _ => ∃ (a : Addr) (ns : List Int) (t : Int), vs = [.ref a, .int t] ∧ SqL K H a (ns.map V.int) ∧ ns.length ≤ 63 ∧ 1 ≤ t ∧ t ≤ 8 ∧
  ∀ (p : Addr) (m : List Int) (H' : Hp), Same H H' → H p = none → Chg m t → H' p = some (.lst (m.map V.int)) → Q (.ref p) H'
def spCoreOf (K : PySem.W.Frag) (C C2 : Addr) : Sp := fun vs H Q _ => ∀ E, spCoreOfX K C C2 vs H Q E
structure Rws (J : Hp) (D : Addr) (ps : List Addr) (R : List (List Int)) : Prop where
  rd : LLr J D ps R
  np : ∀ k : Nat, k < R.length → ps.getD k 0 ≠ D
  row : ∀ k : Nat, k < R.length → IsRow (R.getD k [])
  few : ∀ k : Nat, k < R.length → (R.getD k []).sum ≤ 7
theorem getD_setA {ps : List Addr} {j i : Nat} {p : Addr} (h : j < ps.length) : (ps.set j p).getD i 0 = if i = j then p else ps.getD i 0 := by
  rw [List.getD_eq_getElem?_getD, List.getD_eq_getElem?_getD]
  by_cases z : i = j
  · subst z
    rw [if_pos rfl, List.getElem?_set_self h]
    rfl
  · rw [if_neg z, List.getElem?_set_ne (Ne.symm z)]
theorem getD_setL {R : List (List Int)} {j i : Nat} {r : List Int} (h : j < R.length) : (R.set j r).getD i [] = if i = j then r else R.getD i [] := by
  rw [List.getD_eq_getElem?_getD, List.getD_eq_getElem?_getD]
  by_cases z : i = j
  · subst z
    rw [if_pos rfl, List.getElem?_set_self h]
    rfl
  · rw [if_neg z, List.getElem?_set_ne (Ne.symm z)]
theorem Rws.set {J : Hp} {D p : Addr} {ps : List Addr} {R : List (List Int)} {k : Nat} (h : Rws J D ps R) (hp : J p = none) (hk : k < R.length) :
    Rws (upd (upd J p (.lst [])) D (.lst ((ps.map V.ref).set k (.ref p)))) D (ps.set k p) (R.set k []) := by
  have hkp : k < ps.length := by rw [h.rd.len]; exact hk
  have hpD : p ≠ D := (ne_of_none h.rd.at' hp).symm
  refine ⟨⟨by rw [List.length_set, List.length_set]; exact h.rd.len, by rw [upd_same, List.map_set], fun i hi => ?_⟩, fun i hi => ?_, fun i hi => ?_, fun i hi => ?_⟩
  · rw [List.length_set] at hi
    rw [getD_setA hkp, getD_setL hk]
    by_cases z : i = k
    · rw [if_pos z, if_pos z, upd_ne hpD, upd_same]
      rfl
    · rw [if_neg z, if_neg z, upd_ne (h.np i hi)]
      exact (same_new hp (.lst [])) _ _ (h.rd.each i hi)
  · rw [List.length_set] at hi
    rw [getD_setA hkp]
    by_cases z : i = k
    · rw [if_pos z]; exact hpD
    · rw [if_neg z]; exact h.np i hi
  · rw [List.length_set] at hi
    rw [getD_setL hk]
    by_cases z : i = k
    · rw [if_pos z]; exact isRow_nil
    · rw [if_neg z]; exact h.row i hi
  · rw [List.length_set] at hi
    rw [getD_setL hk]
    by_cases z : i = k
    · rw [if_pos z]; decide
    · rw [if_neg z]; exact h.few i hi
structure Drw (J : Hp) (D : Addr) (ps : List Addr) (R : List (List Int)) : Prop where
  len : ps.length = R.length
  np : ∀ k : Nat, k < R.length → ps.getD k 0 ≠ D
  each : ∀ k : Nat, k < R.length → J (ps.getD k 0) = some (.lst ((R.getD k []).map V.int))
  row : ∀ k : Nat, k < R.length → IsRow (R.getD k [])
  few : ∀ k : Nat, k < R.length → (R.getD k []).sum ≤ 7
theorem getD_snocL {R : List (List Int)} {r : List Int} {k : Nat} (h : k < (R ++ [r]).length) : (R ++ [r]).getD k [] = if k < R.length then R.getD k [] else r := by
  rw [List.length_append, List.length_singleton] at h
  by_cases z : k < R.length
  · rw [if_pos z, List.getD_eq_getElem?_getD, List.getElem?_append_left z, ← List.getD_eq_getElem?_getD]
  · have e : k = R.length := by omega
    rw [if_neg z, List.getD_eq_getElem?_getD, e, List.getElem?_append_right (Nat.le_refl _), Nat.sub_self]
    rfl
theorem Drw.snoc {J J2 : Hp} {D p : Addr} {ps : List Addr} {R : List (List Int)} {r : List Int} {o : HO} (h : Drw J D ps R) (s : Same J J2) (hD : ∃ o, J D = some o) (hp : J p = none) (hp2 : J2 p = some (.lst (r.map V.int))) (hr : IsRow r) (h7 : r.sum ≤ 7) : Drw (upd J2 D o) D (ps ++ [p]) (R ++ [r]) := by
  obtain ⟨oD, hD⟩ := hD
  have hpD : p ≠ D := (ne_of_none hD hp).symm
  have gp : ∀ k : Nat, k < (R ++ [r]).length → (ps ++ [p]).getD k 0 = if k < R.length then ps.getD k 0 else p := fun k hk => by
    rw [List.length_append, List.length_singleton] at hk
    by_cases z : k < R.length
    · rw [if_pos z, getD_snoc_left (by rw [h.len]; exact z)]
    · have e : k = ps.length := by rw [h.len]; omega
      rw [if_neg z, e, getD_snoc_last]
  refine ⟨by rw [List.length_append, List.length_append, h.len]; rfl, fun k hk => ?_, fun k hk => ?_, fun k hk => ?_, fun k hk => ?_⟩
  · rw [gp k hk]
    split
    · next z => exact h.np k z
    · exact hpD
  · rw [gp k hk, getD_snocL hk]
    by_cases z : k < R.length
    · rw [if_pos z, if_pos z, upd_ne (h.np k z)]
      exact s _ _ (h.each k z)
    · rw [if_neg z, if_neg z, upd_ne hpD]
      exact hp2
  · rw [getD_snocL hk]
    split
    · next z => exact h.row k z
    · exact hr
  · rw [getD_snocL hk]
    split
    · next z => exact h.few k z
    · exact h7
theorem Drw.zero {J : Hp} {D : Addr} : Drw J D [] [] := ⟨rfl, fun k hk => absurd hk (Nat.not_lt_zero k), fun k hk => absurd hk (Nat.not_lt_zero k), fun k hk => absurd hk (Nat.not_lt_zero k), fun k hk => absurd hk (Nat.not_lt_zero k)⟩
theorem take_snoc8 (l : List Int) {j : Nat} (h : j < l.length) : l.take (j + 1) = l.take j ++ [l.getD j 0] := by
  rw [List.take_succ_eq_append_getElem h, getD_elem h]

structure Tx (K : PySem.W.Frag) (mg : Str → Option Value) (f_beads : Addr) (d_beads : FuncData) (f_row_of : Addr) (d_row_of : FuncData) (f_check_places : Addr) (d_check_places : FuncData) (f_core : Addr) (d_core : FuncData) (f_quotient : Addr) (d_quotient : FuncData) (f_is_core : Addr) (d_is_core : FuncData) (f_charges : Addr) (d_charges : FuncData) (f_core_of : Addr) (d_core_of : FuncData) (f_joined : Addr) (d_joined : FuncData) (f_check_rods : Addr) (d_check_rods : FuncData) (f_share : Addr) (d_share : FuncData) (f_parted : Addr) (d_parted : FuncData) (f_heights_on : Addr) (d_heights_on : FuncData) (f_laid : Addr) (d_laid : FuncData) (f_ldrawn : Addr) (d_ldrawn : FuncData) (f_lwhole : Addr) (d_lwhole : FuncData) (f_lrow : Addr) (d_lrow : FuncData) (f_lrows : Addr) (d_lrows : FuncData) (f_lrow_by : Addr) (d_lrow_by : FuncData) (f_ltold : Addr) (d_ltold : FuncData) (f_lcharges_by : Addr) (d_lcharges_by : FuncData) (c_NoRods : Addr) (c_NoCore : Addr) (c_NoQuotient : Addr) (c_NoCharges : Addr) : Prop where
  F_beads : Fun K "beads" "beads" s_beads f_beads d_beads
  m_beads : mg "beads" = some (.ref f_beads)
  b_beads : Binds K d_beads ["row", "many"] []
  F_row_of : Fun K "row_of" "row_of" s_row_of f_row_of d_row_of
  m_row_of : mg "row_of" = some (.ref f_row_of)
  b_row_of : Binds K d_row_of ["places"] []
  F_check_places : Fun K "check_places" "check_places" s_check_places f_check_places d_check_places
  m_check_places : mg "check_places" = some (.ref f_check_places)
  b_check_places : Binds K d_check_places ["places"] []
  F_core : Fun K "core" "core" s_core f_core d_core
  m_core : mg "core" = some (.ref f_core)
  b_core : Binds K d_core ["row", "rods"] []
  F_quotient : Fun K "quotient" "quotient" s_quotient f_quotient d_quotient
  m_quotient : mg "quotient" = some (.ref f_quotient)
  b_quotient : Binds K d_quotient ["row", "rods"] []
  F_is_core : Fun K "is_core" "is_core" s_is_core f_is_core d_is_core
  m_is_core : mg "is_core" = some (.ref f_is_core)
  b_is_core : Binds K d_is_core ["row", "rods"] []
  F_charges : Fun K "charges" "charges" s_charges f_charges d_charges
  m_charges : mg "charges" = some (.ref f_charges)
  b_charges : Binds K d_charges ["row", "rods"] []
  F_core_of : Fun K "core_of" "core_of" s_core_of f_core_of d_core_of
  m_core_of : mg "core_of" = some (.ref f_core_of)
  b_core_of : Binds K d_core_of ["numbers"] []
  F_joined : Fun K "joined" "joined" s_joined f_joined d_joined
  m_joined : mg "joined" = some (.ref f_joined)
  b_joined : Binds K d_joined ["middle", "rows", "rods"] []
  F_check_rods : Fun K "check_rods" "check_rods" s_check_rods f_check_rods d_check_rods
  m_check_rods : mg "check_rods" = some (.ref f_check_rods)
  b_check_rods : Binds K d_check_rods ["rods"] []
  F_share : Fun K "share" "share" s_share f_share d_share
  m_share : mg "share" = some (.ref f_share)
  b_share : Binds K d_share ["row", "rods"] []
  F_parted : Fun K "parted" "parted" s_parted f_parted d_parted
  m_parted : mg "parted" = some (.ref f_parted)
  b_parted : Binds K d_parted ["row", "rods"] []
  F_heights_on : Fun K "heights_on" "heights_on" s_heights_on f_heights_on d_heights_on
  m_heights_on : mg "heights_on" = some (.ref f_heights_on)
  b_heights_on : Binds K d_heights_on ["places", "rods", "rod"] []
  F_laid : Fun K "laid" "laid" s_laid f_laid d_laid
  m_laid : mg "laid" = some (.ref f_laid)
  b_laid : Binds K d_laid ["numbers", "rows"] []
  F_ldrawn : Fun K "_law_drawn" "_law_drawn" s_ldrawn f_ldrawn d_ldrawn
  m_ldrawn : mg "_law_drawn" = some (.ref f_ldrawn)
  b_ldrawn : Binds K d_ldrawn ["script", "k", "many"] []
  F_lwhole : Fun K "_law_whole" "_law_whole" s_lwhole f_lwhole d_lwhole
  m_lwhole : mg "_law_whole" = some (.ref f_lwhole)
  b_lwhole : Binds K d_lwhole ["found"] []
  F_lrow : Fun K "_law_row" "_law_row" s_lrow f_lrow d_lrow
  m_lrow : mg "_law_row" = some (.ref f_lrow)
  b_lrow : Binds K d_lrow ["found", "due"] []
  F_lrows : Fun K "_law_rows" "_law_rows" s_lrows f_lrows d_lrows
  m_lrows : mg "_law_rows" = some (.ref f_lrows)
  b_lrows : Binds K d_lrows ["found", "due"] []
  F_lrow_by : Fun K "_law_row_by" "_law_row_by" s_lrow_by f_lrow_by d_lrow_by
  m_lrow_by : mg "_law_row_by" = some (.ref f_lrow_by)
  b_lrow_by : Binds K d_lrow_by ["script", "base", "most"] []
  F_ltold : Fun K "_law_told" "_law_told" s_ltold f_ltold d_ltold
  m_ltold : mg "_law_told" = some (.ref f_ltold)
  b_ltold : Binds K d_ltold ["places"] []
  F_lcharges_by : Fun K "_law_charges_by" "_law_charges_by" s_lcharges_by f_lcharges_by d_lcharges_by
  m_lcharges_by : mg "_law_charges_by" = some (.ref f_lcharges_by)
  b_lcharges_by : Binds K d_lcharges_by ["script", "rods"] []
  z_bool : mg "bool" = none
  z_enumerate : mg "enumerate" = none
  z_int : mg "int" = none
  z_isinstance : mg "isinstance" = none
  z_len : mg "len" = none
  z_list : mg "list" = none
  z_max : mg "max" = none
  z_min : mg "min" = none
  z_range : mg "range" = none
  z_reversed : mg "reversed" = none
  z_sorted : mg "sorted" = none
  z_sum : mg "sum" = none
  z_zip : mg "zip" = none
  C_NoRods : mg "NoRods" = some (.ref c_NoRods)
  C_NoCore : mg "NoCore" = some (.ref c_NoCore)
  C_NoQuotient : mg "NoQuotient" = some (.ref c_NoQuotient)
  C_NoCharges : mg "NoCharges" = some (.ref c_NoCharges)
  x_NoCharges : PySem.W.excIn K c_NoCharges bmV "ValueError.__new__" = true
  K_NoCharges : ExcK K c_NoCharges
  v_NoCharges : PySem.W.kitOne K (.ref c_NoCharges) (.type "ValueError") = some true
  x_NoCore : PySem.W.excIn K c_NoCore bmV "ValueError.__new__" = true
  K_NoCore : ExcK K c_NoCore
  v_NoCore : PySem.W.kitOne K (.ref c_NoCore) (.type "ValueError") = some true
  x_NoQuotient : PySem.W.excIn K c_NoQuotient bmV "ValueError.__new__" = true
  K_NoQuotient : ExcK K c_NoQuotient
  v_NoQuotient : PySem.W.kitOne K (.ref c_NoQuotient) (.type "ValueError") = some true
  x_NoRods : PySem.W.excIn K c_NoRods bmV "ValueError.__new__" = true
  K_NoRods : ExcK K c_NoRods
  v_NoRods : PySem.W.kitOne K (.ref c_NoRods) (.type "ValueError") = some true
section
variable {P : Program} {w : World} {K : PySem.W.Frag} {mg : Str → Option Value} {base : Heap} {f_beads f_row_of f_check_places f_core f_quotient f_is_core f_charges f_core_of f_joined f_check_rods f_share f_parted f_heights_on f_laid f_ldrawn f_lwhole f_lrow f_lrows f_lrow_by f_ltold f_lcharges_by : Addr} {d_beads d_row_of d_check_places d_core d_quotient d_is_core d_charges d_core_of d_joined d_check_rods d_share d_parted d_heights_on d_laid d_ldrawn d_lwhole d_lrow d_lrows d_lrow_by d_ltold d_lcharges_by : FuncData} {c_NoRods c_NoCore c_NoQuotient c_NoCharges : Addr}
theorem ok_ldrawn (T : Tx K mg f_beads d_beads f_row_of d_row_of f_check_places d_check_places f_core d_core f_quotient d_quotient f_is_core d_is_core f_charges d_charges f_core_of d_core_of f_joined d_joined f_check_rods d_check_rods f_share d_share f_parted d_parted f_heights_on d_heights_on f_laid d_laid f_ldrawn d_ldrawn f_lwhole d_lwhole f_lrow d_lrow f_lrows d_lrows f_lrow_by d_lrow_by f_ltold d_ltold f_lcharges_by d_lcharges_by c_NoRods c_NoCore c_NoQuotient c_NoCharges) : FnOk P w K mg base CX0 1 f_ldrawn d_ldrawn ["script", "k", "many"] (spDrawn K) := by
  refine T.F_ldrawn.ok sc_ldrawn (fun vs H Q E h => ?_) (fun cdv A outer s H vs Q E hr h => ?_)
  · obtain ⟨a, ns, k, m, rfl, _⟩ := h
    rfl
  obtain ⟨a, ns, k, m, rfl, hS, h63, h0, h1, hm, q⟩ := h
  refine ⟨_, (pss_cons (ps_set (i := 3) sc_ldrawn.nd rfl (Or.inl rfl) pe_int)
      (pss_cons (ps_mid (ps_if (pt_cmpR op_gt (pe_callB call_len_seq rfl T.z_len PySem.boot_len (pa_cons (pv 0) pa_nil)) pe_int (nomark _)) (pss_one (ps_set (i := 3) sc_ldrawn.nd rfl (Or.inl rfl) (pe_ix ix_list (pv 0) (pe_op op_mod (pv 1) (pe_callB call_len_seq rfl T.z_len PySem.boot_len (pa_cons (pv 0) pa_nil))) (fun _ _ => rfl)))) pss_nil))
      (pss_cons (ps_set (i := 4) sc_ldrawn.nd rfl (Or.inl rfl) (pe_op op_add (pe_op op_add (pe_op op_mul (pv 3) (pe_op op_add pe_int (pe_op op_mul pe_int (pe_op op_mod (pv 1) pe_int)))) (pe_op op_mul (pe_op op_mul (pe_op op_add (pv 1) pe_int) (pe_op op_add (pv 1) pe_int)) pe_int)) (pe_callB call_len_seq rfl T.z_len PySem.boot_len (pa_cons (pv 0) pa_nil))))
      (pss_one (ps_ret (pe_op op_mod (pe_op op_fdiv (pe_op op_mod (pv 4) pe_int) pe_int) (pv 2))))))), ?_⟩
  have hl : (ns.map V.int).length = ns.length := List.length_map _
  have fin : ∀ z : Int, Q (.int (z % 2147483647 / 16 % m)) H := fun z => q _ (Int.emod_nonneg _ (by omega)) (Int.emod_lt_of_pos _ hm)
  have k97 : 0 ≤ k % 97 ∧ k % 97 < 97 := ⟨Int.emod_nonneg _ (by decide), Int.emod_lt_of_pos _ (by decide)⟩
  refine ⟨fun σ H' => ∃ c : Int, σ = [some (.ref a), some (.int k), some (.int m), some (.int c), none] ∧ H' = H, ?_, ?_⟩
  · refine ⟨_, rfl, a, _, rfl, .inl hS, _, _, rfl, rfl, _, rfl, ?_⟩
    refine ite2 (fun c => ?_) (fun c => ?_)
    · have c' : (0 : Int) < (((ns.map V.int).length : Nat) : Int) := of_decide_eq_true c
      have c2 : (0 : Int) < (ns.length : Int) := by rw [hl] at c'; exact c'
      have hv := at_int (ns := ns) (i := k % (((ns.map V.int).length : Nat) : Int)) (Int.emod_nonneg _ (by omega)) (by rw [hl]; exact Int.emod_lt_of_pos _ c2)
      exact ⟨_, rfl, _, rfl, _, rfl, a, _, rfl, .inl hS, _, _, rfl, rfl, c', a, _, _, _, rfl, rfl, hS, hv, _, rfl, rfl⟩
    · exact ⟨7, rfl, rfl⟩
  · rintro σ H' ⟨c, rfl, rfl⟩
    refine ⟨_, rfl, _, rfl, _, _, rfl, rfl, (by show (0 : Int) < 97; decide), _, _, rfl, rfl, .inl ⟨by decide, by decide⟩, _, _, rfl, rfl, _, _, rfl, rfl, .inr ⟨by omega, by omega⟩, _, rfl, _, _, rfl, rfl, _, rfl, _, _, rfl, rfl, _, _, rfl, rfl, .inl ⟨by omega, by omega⟩, _, _, rfl, rfl, .inr ⟨by decide, by decide⟩, _, _, rfl, rfl, _, rfl, a, _, rfl, .inl hS, _, _, rfl, rfl, ?_⟩
    exact ⟨_, rfl, _, _, rfl, rfl, (by show (0 : Int) < 2147483647; decide), _, _, rfl, rfl, ⟨by decide, by decide⟩, _, rfl, _, _, rfl, rfl, hm, fin _⟩


theorem ok_lrow_by (T : Tx K mg f_beads d_beads f_row_of d_row_of f_check_places d_check_places f_core d_core f_quotient d_quotient f_is_core d_is_core f_charges d_charges f_core_of d_core_of f_joined d_joined f_check_rods d_check_rods f_share d_share f_parted d_parted f_heights_on d_heights_on f_laid d_laid f_ldrawn d_ldrawn f_lwhole d_lwhole f_lrow d_lrow f_lrows d_lrows f_lrow_by d_lrow_by f_ltold d_ltold f_lcharges_by d_lcharges_by c_NoRods c_NoCore c_NoQuotient c_NoCharges) : FnOk P w K mg base CX0 2 f_lrow_by d_lrow_by ["script", "base", "most"] (spRowBy K) := by
  have G_ldrawn : FnOk P w K mg base CX0 1 f_ldrawn d_ldrawn ["script", "k", "many"] (spDrawn K) := ok_ldrawn T
  refine T.F_lrow_by.ok sc_lrow_by (fun vs H Q E h => ?_) (fun cdv A outer s H vs Q E hr h => ?_)
  · obtain ⟨a, ns, k, m, rfl, _⟩ := h
    rfl
  obtain ⟨a, ns, k, m, rfl, hS, h63, h0, h1, hm, hm6, q⟩ := h
  refine ⟨_, (pss_cons (ps_set (i := 3) sc_lrow_by.nd rfl (Or.inl rfl) (pe_call G_ldrawn (hr.mono (by decide)) rfl T.m_ldrawn T.F_ldrawn.kp T.b_ldrawn .nil pass0 (pa_cons (pv 0) (pa_cons (pv 1) (pa_cons (pe_op op_add (pv 2) pe_int) pa_nil)))))
      (pss_cons (ps_set (i := 4) sc_lrow_by.nd rfl (Or.inl rfl) (pe_lst pa_nil))
      (pss_cons (ps_set (i := 5) sc_lrow_by.nd rfl (Or.inl rfl) (pe_op op_add pe_int (pe_call G_ldrawn (hr.mono (by decide)) rfl T.m_ldrawn T.F_ldrawn.kp T.b_ldrawn .nil pass0 (pa_cons (pv 0) (pa_cons (pe_op op_add (pv 1) pe_int) (pa_cons (pv 2) pa_nil))))))
      (pss_cons (ps_while PassesOwn.never (pt_cmpR op_gt (pv 3) pe_int (nomark _)) (pss_cons (ps_set (i := 6) sc_lrow_by.nd rfl (Or.inl rfl) (pe_ix ix_list (pe_lst (pa_cons pe_int (pa_cons pe_int (pa_cons pe_int (pa_cons (pe_op op_add pe_int (pv 5)) pa_nil))))) (pe_call G_ldrawn (hr.mono (by decide)) rfl T.m_ldrawn T.F_ldrawn.kp T.b_ldrawn .nil pass0 (pa_cons (pv 0) (pa_cons (pe_op op_add (pv 1) pe_int) (pa_cons pe_int pa_nil)))) (fun _ _ => rfl)))
      (pss_cons (ps_set (i := 7) sc_lrow_by.nd rfl (Or.inl rfl) (pe_op op_mul (pe_call G_ldrawn (hr.mono (by decide)) rfl T.m_ldrawn T.F_ldrawn.kp T.b_ldrawn .nil pass0 (pa_cons (pv 0) (pa_cons (pe_op op_add (pe_op op_add (pv 1) pe_int) (pe_callB call_len_seq rfl T.z_len PySem.boot_len (pa_cons (pv 4) pa_nil))) (pa_cons (pv 6) pa_nil)))) (pe_call G_ldrawn (hr.mono (by decide)) rfl T.m_ldrawn T.F_ldrawn.kp T.b_ldrawn .nil pass0 (pa_cons (pv 0) (pa_cons (pe_op op_add (pv 1) pe_int) (pa_cons pe_int pa_nil))))))
      (pss_cons (ps_set (i := 5) sc_lrow_by.nd rfl (Or.inl rfl) (pe_callB (call_min2 rfl) rfl T.z_min boot_min (pa_cons (pv 3) (pa_cons (pe_op op_sub (pv 5) (pv 7)) pa_nil))))
      (pss_cons (ps_set (i := 5) sc_lrow_by.nd rfl (Or.inl rfl) (pe_callB (call_max2 rfl) rfl T.z_max boot_max (pa_cons pe_int (pa_cons (pv 5) pa_nil))))
      (pss_cons (ps_expr (pe_bm PySem.F.plainAttrs_list PySem.F.slot_list_append PySem.F.type_list_append mt_append (pv 4) (pa_cons (pv 5) pa_nil)))
      (pss_one (ps_set (i := 3) sc_lrow_by.nd rfl (Or.inl rfl) (pe_op op_sub (pv 3) (pv 5))))))))))
      (pss_one (ps_ret (pv 4))))))), ?_⟩
  refine ⟨_, rfl, _, rfl, _, rfl, _, _, rfl, rfl, a, ns, k, m + 1, rfl, hS, h63, h0, by omega, by omega, fun left l0 l1 => ?_⟩
  refine ⟨(by show 0 ≤ sizeLine; decide), fun p hp => ?_⟩
  have s1 : Same H (upd H p (.lst [])) := same_new hp _
  refine ⟨_, rfl, _, rfl, _, _, rfl, rfl, _, rfl, a, ns, k + 1, m, rfl, s1.seq hS, h63, by omega, by omega, hm, fun g g0 g1 => ?_⟩
  refine ⟨_, _, rfl, rfl, ?_⟩
  refine ⟨fun n σ H2 => ∃ (left g : Int) (r : List Int) (bb st : Option V), σ = [some (.ref a), some (.int k), some (.int m), some (.int left), some (.ref p), some (.int g), bb, st] ∧ (n : Int) = left ∧ Same H H2 ∧ H2 p = some (.lst (r.map V.int)) ∧
    1 ≤ g ∧ g ≤ 61 ∧ IsRow r ∧ (r = [] ∨ g ≤ r.getD (r.length - 1) 0) ∧ r.sum + left ≤ m, ⟨left.toNat, left, 1 + g, [], none, none, rfl, by omega, s1, upd_same, by omega, by omega, isRow_nil, .inl rfl, by rw [List.sum_nil]; omega⟩, ?_⟩
  rintro n σ H2 ⟨left, g, r, bb, st, rfl, hn, s2, hp2, hg1, hg2, hrow, hlast, hsum⟩
  have hlen := row_len hrow
  have hrl : (r.map V.int).length = r.length := List.length_map _
  refine ⟨_, rfl, _, _, rfl, rfl, _, rfl, ?_⟩
  refine ite2 (fun c => ?_) (fun c => ?_)
  · have c' : (0 : Int) < left := of_decide_eq_true c
    refine ⟨_, fun _ _ z => z, ?_⟩
    refine ⟨_, rfl, _, _, rfl, rfl, (by show 4 ≤ sizeLine; decide), fun l hl => ?_⟩
    have s3 : Same H (upd H2 l (.lst [.int 3, .int 3, .int 12, .int (1 + g)])) := s2.trans (same_new hl _)
    refine ⟨_, rfl, _, rfl, _, _, rfl, rfl, a, ns, k + 71, 4, rfl, s3.seq hS, h63, by omega, by omega, by decide, fun d d0 d1 => ?_⟩
    obtain ⟨v, hv, hv1⟩ : ∃ v : Int, atI [V.int 3, .int 3, .int 12, .int (1 + g)] d = some (.int v) ∧ 1 ≤ v := by
      have hd : d = 0 ∨ d = 1 ∨ d = 2 ∨ d = 3 := by omega
      rcases hd with rfl | rfl | rfl | rfl
      · exact ⟨3, rfl, by decide⟩
      · exact ⟨3, rfl, by decide⟩
      · exact ⟨12, rfl, by decide⟩
      · exact ⟨1 + g, rfl, by omega⟩
    have hpl : p ≠ l := ne_of_none hp2 hl
    have hp3 : (upd H2 l (.lst [.int 3, .int 3, .int 12, .int (1 + g)])) p = some (.lst (r.map V.int)) := by rw [upd_ne hpl]; exact hp2
    refine ⟨l, _, d, _, rfl, rfl, SqL.of upd_same, hv, ?_⟩
    refine ⟨_, rfl, _, rfl, _, _, rfl, rfl, _, rfl, p, _, rfl, .inl (SqL.of hp3), _, _, rfl, rfl, _, rfl, a, ns, k + 2 + ((r.map V.int).length : Nat), v, rfl, s3.seq hS, h63, by omega, by omega, by omega, fun e e0 e1 => ?_⟩
    refine ⟨_, rfl, _, rfl, _, _, rfl, rfl, a, ns, k + 70, 2, rfl, s3.seq hS, h63, by omega, by omega, by decide, fun f f0 f1 => ?_⟩
    refine ⟨_, _, rfl, rfl, .inr ⟨by omega, by omega⟩, ?_⟩
    have hef : 0 ≤ e * f := Int.mul_nonneg e0 f0
    refine ⟨_, rfl, _, rfl, _, rfl, _, _, rfl, rfl, _, _, rfl, ?_⟩
    refine ⟨_, rfl, _, _, rfl, ?_⟩
    obtain ⟨G, hG⟩ : ∃ G : Int, G = (if (if g - e * f < left then g - e * f else left) > 1 then (if g - e * f < left then g - e * f else left) else 1) := ⟨_, rfl⟩
    have hG1 : 1 ≤ G ∧ G ≤ g ∧ G ≤ left := by
      rw [hG]
      split
      · split <;> omega
      · omega
    rw [← hG]
    refine ⟨_, rfl, .inl ⟨rfl, _, SqL.of hp3⟩, _, rfl, p, _, _, rfl, rfl, hp3, ?_, ?_⟩
    · exact small1000 (by omega)
    refine ⟨_, rfl, _, rfl, _, _, rfl, rfl, ?_⟩
    refine ⟨(left - G).toNat, by omega, left - G, G, r ++ [G], _, _, rfl, by omega, ?_, ?_, by omega, by omega, isRow_snoc hrow hG1.1 ?_, ?_, ?_⟩
    · intro b o ho
      rw [upd_ne (ne_of_none ho hp)]
      exact s3 b o ho
    · rw [upd_same, List.map_append]
      rfl
    · rcases hlast with z | z
      · exact .inl z
      · exact .inr (by omega)
    · right
      have e1 : (r ++ [G]).length - 1 = r.length := by rw [List.length_append]; rfl
      rw [e1, getD_app_last]
      exact Int.le_refl _
    · rw [sum_snoc]; omega
  · have c' : ¬ (0 : Int) < left := of_decide_eq_false (Bool.eq_false_iff.mpr c)
    exact ⟨_, rfl, q p r H2 s2 hp hrow (by omega) (by omega) hp2⟩


theorem ok_lwhole (T : Tx K mg f_beads d_beads f_row_of d_row_of f_check_places d_check_places f_core d_core f_quotient d_quotient f_is_core d_is_core f_charges d_charges f_core_of d_core_of f_joined d_joined f_check_rods d_check_rods f_share d_share f_parted d_parted f_heights_on d_heights_on f_laid d_laid f_ldrawn d_ldrawn f_lwhole d_lwhole f_lrow d_lrow f_lrows d_lrows f_lrow_by d_lrow_by f_ltold d_ltold f_lcharges_by d_lcharges_by c_NoRods c_NoCore c_NoQuotient c_NoCharges) : FnOk P w K mg base CX0 1 f_lwhole d_lwhole ["found"] spWhole := by
  refine T.F_lwhole.ok sc_lwhole (fun vs H Q E h => ?_) (fun cdv A outer s H vs Q E hr h => ?_)
  · obtain ⟨i, rfl, _⟩ := h
    rfl
  obtain ⟨i, rfl, q⟩ := h
  refine ⟨_, (pss_one (ps_ret (pe_and (pe_callB call_isinst rfl T.z_isinstance boot_isinstance (pa_cons (pv 0) (pa_cons (pe_bltn (v := .ty "int") rfl T.z_int boot_int rfl) pa_nil))) (pe_one (pe_not (pe_callB call_isinst rfl T.z_isinstance boot_isinstance (pa_cons (pv 0) (pa_cons (pe_bltn (v := .ty "bool") rfl T.z_bool boot_bool rfl) pa_nil)))))))), ?_⟩
  refine ⟨_, rfl, _, _, _, true, rfl, .int i, kit_int_int, _, rfl, iteT ?_⟩
  exact ⟨_, rfl, _, _, _, false, rfl, .int i, kit_int_bool, _, rfl, q⟩


theorem ok_lrow (T : Tx K mg f_beads d_beads f_row_of d_row_of f_check_places d_check_places f_core d_core f_quotient d_quotient f_is_core d_is_core f_charges d_charges f_core_of d_core_of f_joined d_joined f_check_rods d_check_rods f_share d_share f_parted d_parted f_heights_on d_heights_on f_laid d_laid f_ldrawn d_ldrawn f_lwhole d_lwhole f_lrow d_lrow f_lrows d_lrows f_lrow_by d_lrow_by f_ltold d_ltold f_lcharges_by d_lcharges_by c_NoRods c_NoCore c_NoQuotient c_NoCharges) : FnOk P w K mg base CX0 2 f_lrow d_lrow ["found", "due"] (spLRow K) := by
  have G_lwhole : FnOk P w K mg base CX0 1 f_lwhole d_lwhole ["found"] spWhole := ok_lwhole T
  refine T.F_lrow.ok sc_lrow (fun vs H Q E h => ?_) (fun cdv A outer s H vs Q E hr h => ?_)
  · obtain ⟨p, p2, xs, ys, rfl, _⟩ := h
    rfl
  obtain ⟨p, p2, xs, ys, rfl, hp, hq, hx5, hy5, q⟩ := h
  refine ⟨_, (pss_cons (ps_if (PW.pt (pw_or (pt_not (pt_val (pe_callB call_isinst rfl T.z_isinstance boot_isinstance (pa_cons (pv 0) (pa_cons (pe_bltn (v := .ty "list") rfl T.z_list boot_list rfl) pa_nil))))) (pw_or1 (pt_cmpR op_ne (pe_callB call_len_seq rfl T.z_len PySem.boot_len (pa_cons (pv 0) pa_nil)) (pe_callB call_len_seq rfl T.z_len PySem.boot_len (pa_cons (pv 1) pa_nil)) (nomark _))))) (pss_one (ps_ret pe_bl)) pss_nil)
      (pss_cons (ps_for PassesOwn.never rfl (pi_range1 rfl T.z_range (pa_cons (pe_callB call_len_seq rfl T.z_len PySem.boot_len (pa_cons (pv 1) pa_nil)) pa_nil)) (pg_name (i := 2) sc_lrow.nd rfl (Or.inl rfl)) (pss_one (ps_if (PW.pt (pw_or (pt_not (pt_val (pe_call G_lwhole (hr.mono (by decide)) rfl T.m_lwhole T.F_lwhole.kp T.b_lwhole .nil pass0 (pa_cons (pe_ix ix_list (pv 0) (pv 2) (fun _ _ => rfl)) pa_nil)))) (pw_or1 (pt_cmpR op_ne (pe_ix ix_list (pv 0) (pv 2) (fun _ _ => rfl)) (pe_ix ix_list (pv 1) (pv 2) (fun _ _ => rfl)) (nomark _))))) (pss_one (ps_ret pe_bl)) pss_nil)))
      (pss_one (ps_ret pe_bl)))), ?_⟩
  have lx : (xs.map V.int).length = xs.length := List.length_map _
  have ly : (ys.map V.int).length = ys.length := List.length_map _
  refine ⟨_, rfl, _, _, _, true, rfl, .lst hp, kit_list_list, _, rfl, iteF ?_⟩
  refine ⟨_, rfl, p, _, rfl, .inl (SqL.of hp), _, rfl, p2, _, rfl, .inl hq, rfl, _, rfl, ?_⟩
  by_cases hl : xs.length = ys.length
  · refine iteNS (by rw [lx, ly, hl]) ?_
    refine ⟨_, rfl, p2, _, rfl, .inl hq, _, rfl, by omega, by omega, for_range (lo := 0) (n := ((((ys.map V.int).length : Nat) : Int)).toNat) (fun i σ H2 => ∃ u : Option V, σ = [some (.ref p), some (.ref p2), u] ∧ H2 = H ∧ ∀ j : Nat, j < i → xs.getD j 0 = ys.getD j 0)
      ⟨none, rfl, rfl, fun j hj => absurd hj (Nat.not_lt_zero j)⟩ ?_ ?_⟩
    · rintro i σ H2 hi ⟨u, rfl, rfl, hall⟩
      have hi' : i < ys.length := by omega
      have ei : (0 + (i : Int)).toNat = i := by omega
      have hv := at_int (ns := xs) (i := 0 + (i : Int)) (by omega) (by omega)
      have hw := at_int (ns := ys) (i := 0 + (i : Int)) (by omega) (by omega)
      rw [ei] at hv hw
      refine ⟨_, rfl, _, rfl, p, _, _, _, rfl, rfl, SqL.of hp, hv, _, rfl, _, rfl, iteF ?_⟩
      refine ⟨_, rfl, _, rfl, p, _, _, _, rfl, rfl, SqL.of hp, hv, _, rfl, _, rfl, p2, _, _, _, rfl, rfl, hq, hw, rfl, _, rfl, ?_⟩
      by_cases he : xs.getD i 0 = ys.getD i 0
      · refine iteNS (by rw [he]) ?_
        refine ⟨_, rfl, rfl, fun j hj => ?_⟩
        by_cases z : j = i
        · rw [z]; exact he
        · exact hall j (by omega)
      · refine iteB (by simpa using he) ?_
        have : decide (xs = ys) = false := decide_eq_false fun z => he (by rw [z])
        rw [this] at q
        exact q
    · rintro σ H2 ⟨u, rfl, rfl, hall⟩
      have : decide (xs = ys) = true := decide_eq_true (ext_getD hl fun j hj => hall j (by omega))
      rw [this] at q
      exact q
  · have z : ¬ V.int (((xs.map V.int).length : Nat) : Int) = V.int (((ys.map V.int).length : Nat) : Int) := fun z => by injection z with z; omega
    refine iteB (by simpa using z) ?_
    have : decide (xs = ys) = false := decide_eq_false fun z => hl (by rw [z])
    rw [this] at q
    exact q


theorem at_ref {ps : List Addr} {i : Int} (h0 : 0 ≤ i) (h : i < (ps.length : Int)) : atI (ps.map V.ref) i = some (.ref (ps.getD i.toNat 0)) := by
  have hk : i.toNat < ps.length := by omega
  have ek : i = ((i.toNat : Nat) : Int) := by omega
  have q : atI (ps.map V.ref) ((i.toNat : Nat) : Int) = some (.ref (ps.getD i.toNat 0)) := atI_nat (by
    rw [List.getElem?_map, List.getD_eq_getElem?_getD, List.getElem?_eq_getElem hk]; rfl)
  rw [← ek] at q
  exact q

def spLRows (K : PySem.W.Frag) : Sp := fun vs H Q _ => ∃ (p p2 : Addr) (ps ps2 : List Addr) (L : List (List Int)), vs = [.ref p, .ref p2] ∧ LLr H p ps L ∧ LLr H p2 ps2 L ∧ L.length ≤ 1000 ∧ (∀ l ∈ L, l.length ≤ 1000) ∧ Q (.bl true) H
theorem getD_memL {L : List (List Int)} {j : Nat} (h : j < L.length) : L.getD j [] ∈ L := by
  rw [List.getD_eq_getElem?_getD, List.getElem?_eq_getElem h]
  exact List.getElem_mem h
theorem ok_lrows (T : Tx K mg f_beads d_beads f_row_of d_row_of f_check_places d_check_places f_core d_core f_quotient d_quotient f_is_core d_is_core f_charges d_charges f_core_of d_core_of f_joined d_joined f_check_rods d_check_rods f_share d_share f_parted d_parted f_heights_on d_heights_on f_laid d_laid f_ldrawn d_ldrawn f_lwhole d_lwhole f_lrow d_lrow f_lrows d_lrows f_lrow_by d_lrow_by f_ltold d_ltold f_lcharges_by d_lcharges_by c_NoRods c_NoCore c_NoQuotient c_NoCharges) : FnOk P w K mg base CX0 3 f_lrows d_lrows ["found", "due"] (spLRows K) := by
  have G_lrow : FnOk P w K mg base CX0 2 f_lrow d_lrow ["found", "due"] (spLRow K) := ok_lrow T
  refine T.F_lrows.ok sc_lrows (fun vs H Q E h => ?_) (fun cdv A outer s H vs Q E hr h => ?_)
  · obtain ⟨p, p2, ps, ps2, L, rfl, _⟩ := h
    rfl
  obtain ⟨p, p2, ps, ps2, L, rfl, h1, h2, hL, hl, q⟩ := h
  refine ⟨_, (pss_cons (ps_if (PW.pt (pw_or (pt_not (pt_val (pe_callB call_isinst rfl T.z_isinstance boot_isinstance (pa_cons (pv 0) (pa_cons (pe_bltn (v := .ty "list") rfl T.z_list boot_list rfl) pa_nil))))) (pw_or1 (pt_cmpR op_ne (pe_callB call_len_seq rfl T.z_len PySem.boot_len (pa_cons (pv 0) pa_nil)) (pe_callB call_len_seq rfl T.z_len PySem.boot_len (pa_cons (pv 1) pa_nil)) (nomark _))))) (pss_one (ps_ret pe_bl)) pss_nil)
      (pss_cons (ps_for PassesOwn.never rfl (pi_range1 rfl T.z_range (pa_cons (pe_callB call_len_seq rfl T.z_len PySem.boot_len (pa_cons (pv 1) pa_nil)) pa_nil)) (pg_name (i := 2) sc_lrows.nd rfl (Or.inl rfl)) (pss_one (ps_if (pt_not (pt_val (pe_call G_lrow (hr.mono (by decide)) rfl T.m_lrow T.F_lrow.kp T.b_lrow .nil pass0 (pa_cons (pe_ix ix_list (pv 0) (pv 2) (fun _ _ => rfl)) (pa_cons (pe_ix ix_list (pv 1) (pv 2) (fun _ _ => rfl)) pa_nil))))) (pss_one (ps_ret pe_bl)) pss_nil)))
      (pss_one (ps_ret pe_bl)))), ?_⟩
  have l1 : (ps.map V.ref).length = L.length := by rw [List.length_map]; exact h1.len
  have l2 : (ps2.map V.ref).length = L.length := by rw [List.length_map]; exact h2.len
  refine ⟨_, rfl, _, _, _, true, rfl, .lst h1.at', kit_list_list, _, rfl, iteF ?_⟩
  refine ⟨_, rfl, p, _, rfl, .inl (SqL.of h1.at'), _, rfl, p2, _, rfl, .inl (SqL.of h2.at'), rfl, _, rfl, ?_⟩
  refine iteNS (by rw [l1, l2]) ?_
  refine ⟨_, rfl, p2, _, rfl, .inl (SqL.of h2.at'), _, rfl, by omega, by omega, for_range (lo := 0) (n := (((ps2.map V.ref).length : Nat) : Int).toNat) (fun i σ H2 => ∃ u : Option V, σ = [some (.ref p), some (.ref p2), u] ∧ H2 = H)
    ⟨none, rfl, rfl⟩ ?_ ?_⟩
  · rintro i σ H2 hi ⟨u, rfl, rfl⟩
    have hi' : i < L.length := by omega
    have ei : (0 + (i : Int)).toNat = i := by omega
    have hv := at_ref (ps := ps) (i := 0 + (i : Int)) (by omega) (by rw [h1.len]; omega)
    have hw := at_ref (ps := ps2) (i := 0 + (i : Int)) (by omega) (by rw [h2.len]; omega)
    rw [ei] at hv hw
    have hll := hl _ (getD_memL hi')
    refine ⟨_, rfl, _, rfl, p, _, _, _, rfl, rfl, SqL.of h1.at', hv, _, rfl, _, rfl, p2, _, _, _, rfl, rfl, SqL.of h2.at', hw, _, _, L.getD i [], L.getD i [], rfl, h1.each i hi', SqL.of (h2.each i hi'), by omega, by omega, _, rfl, ?_⟩
    refine iteC (by rw [decide_eq_true rfl]; rfl) ?_
    exact ⟨_, rfl, rfl⟩
  · rintro σ H2 ⟨u, rfl, rfl⟩
    exact q


theorem ok_check_places (T : Tx K mg f_beads d_beads f_row_of d_row_of f_check_places d_check_places f_core d_core f_quotient d_quotient f_is_core d_is_core f_charges d_charges f_core_of d_core_of f_joined d_joined f_check_rods d_check_rods f_share d_share f_parted d_parted f_heights_on d_heights_on f_laid d_laid f_ldrawn d_ldrawn f_lwhole d_lwhole f_lrow d_lrow f_lrows d_lrows f_lrow_by d_lrow_by f_ltold d_ltold f_lcharges_by d_lcharges_by c_NoRods c_NoCore c_NoQuotient c_NoCharges) : FnOk P w K mg base CX0 1 f_check_places d_check_places ["places"] (spCheck K) := by
  refine T.F_check_places.ok sc_check_places (fun vs H Q E h => ?_) (fun cdv A outer s H vs Q E hr h => ?_)
  · obtain ⟨a, ns, rfl, _⟩ := h
    rfl
  obtain ⟨a, ns, rfl, hS, hrise, q⟩ := h
  refine ⟨_, (pss_cons (ps_set (i := 1) sc_check_places.nd rfl (Or.inl rfl) (pe_un un_neg pe_int))
      (pss_one (ps_for PassesOwn.never rfl (pi_list (pv 0)) (pg_name (i := 2) sc_check_places.nd rfl (Or.inl rfl)) (pss_cons (ps_if (pt_cmpR op_le (pv 2) (pv 1) (nomark _)) (pss_one ps_never) pss_nil)
      (pss_one (ps_set (i := 1) sc_check_places.nd rfl (Or.inl rfl) (pv 2))))))), ?_⟩
  have hl : (ns.map V.int).length = ns.length := List.length_map _
  refine ⟨_, rfl, ?_⟩
  refine ⟨_, rfl, a, rfl, ⟨_, hS⟩, for_list (K := K) (a := a) (xs := ns.map V.int) (fun i σ H2 => ∃ u : Option V, σ = [some (.ref a), some (.int (if i = 0 then (-1 : Int) else ns.getD (i - 1) 0)), u] ∧ H2 = H)
    ⟨none, rfl, rfl⟩ (fun i σ H2 _ ⟨_, _, e⟩ => by rw [e]; exact hS) ?_ ?_⟩
  · rintro i y σ H2 hi ⟨u, rfl, rfl⟩
    have hil : i < (ns.map V.int).length := (List.getElem?_eq_some_iff.mp hi).1
    rw [hl] at hil
    obtain rfl : y = V.int (ns.getD i 0) := by
      rw [List.getElem?_map, getD_of hil] at hi
      exact (Option.some.inj hi).symm
    have hlt := hrise i hil
    refine ⟨_, rfl, _, rfl, _, _, rfl, rfl, _, rfl, ?_⟩
    refine iteC (decide_eq_false (by omega)) ?_
    refine ⟨_, rfl, some (.int (ns.getD i 0)), ?_, rfl⟩
    have e : (if i + 1 = 0 then (-1 : Int) else ns.getD (i + 1 - 1) 0) = ns.getD i 0 := by rw [if_neg (by omega)]; rfl
    rw [e]
    rfl
  · rintro σ H2 ⟨u, rfl, rfl⟩
    exact q


theorem rep_flat (n : Nat) : (List.replicate n [V.int 0]).flatten = (List.replicate n (0 : Int)).map V.int := by
  induction n with
  | zero => rfl
  | succ n ih => rw [List.replicate_succ, List.flatten_cons, ih, List.replicate_succ]; rfl
theorem ok_beads (T : Tx K mg f_beads d_beads f_row_of d_row_of f_check_places d_check_places f_core d_core f_quotient d_quotient f_is_core d_is_core f_charges d_charges f_core_of d_core_of f_joined d_joined f_check_rods d_check_rods f_share d_share f_parted d_parted f_heights_on d_heights_on f_laid d_laid f_ldrawn d_ldrawn f_lwhole d_lwhole f_lrow d_lrow f_lrows d_lrows f_lrow_by d_lrow_by f_ltold d_ltold f_lcharges_by d_lcharges_by c_NoRods c_NoCore c_NoQuotient c_NoCharges) : FnOk P w K mg base CX0 1 f_beads d_beads ["row", "many"] (spBeads K) := by
  refine T.F_beads.ok sc_beads (fun vs H Q E h => ?_) (fun cdv A outer s H vs Q E hr h => ?_)
  · obtain ⟨a, r, m, rfl, _⟩ := h
    rfl
  obtain ⟨a, r, m, rfl, hS, hm, hm1, q⟩ := h
  refine ⟨_, (pss_cons (ps_set (i := 2) sc_beads.nd rfl (Or.inl rfl) (pe_op op_sub (pv 1) (pe_callB call_len_seq rfl T.z_len PySem.boot_len (pa_cons (pv 0) pa_nil))))
      (pss_cons (ps_if (pt_cmpR op_lt (pv 2) pe_int (nomark _)) (pss_one ps_never) pss_nil)
      (pss_cons (ps_set (i := 3) sc_beads.nd rfl (Or.inl rfl) (pe_op op_cat (pe_op op_rep (pe_lst (pa_cons pe_int pa_nil)) (pv 2)) (pe_listRev rfl rfl T.z_list rfl T.z_reversed (pa_cons (pv 0) pa_nil))))
      (pss_one (ps_ret (pe_comp ["row", "many", "spare", "gaps"] ["lower", "gap"] [none, none] (defScope s_beads) rfl (pi_enum rfl T.z_enumerate (pa_cons (pv 3) pa_nil)) (fun _ _ _ _ => (pg_tupK (K := K) (n := 2) rfl rfl (pgs_cons (pg_name (i := 0) (show List.Nodup (["lower", "gap"] : List Str) by decide +kernel) rfl (Or.inl rfl) (Or.inr rfl)) (pgs_cons (pg_name (i := 1) (show List.Nodup (["lower", "gap"] : List Str) by decide +kernel) rfl (Or.inl rfl) (Or.inr rfl)) pgs_nil)))) (fun _ _ _ _ => pif_nil) (fun _ _ _ _ => (pe_op op_add (pv 0) (pv 1))))))))), ?_⟩
  have hl : (r.map V.int).length = r.length := List.length_map _
  have hs : sizeLine = 16777216 := sizeLine_eq
  refine ⟨_, rfl, _, rfl, a, _, rfl, .inl hS, _, _, rfl, rfl, ?_⟩
  refine ⟨_, rfl, _, _, rfl, rfl, _, rfl, iteC (decide_eq_false (by omega)) ?_⟩
  refine ⟨(by show 1 ≤ sizeLine; decide), fun z hz => ?_⟩
  have s1 : Same H (upd H z (.lst [.int 0])) := same_new hz _
  refine ⟨_, rfl, z, _, _, rfl, rfl, upd_same, by omega, by omega, by rw [List.length_singleton]; omega, fun y hy => ?_⟩
  have s2 := s1.trans (same_new hy (.lst (List.replicate (m - ((r.map V.int).length : Nat)).toNat [V.int 0]).flatten))
  refine ⟨_, rfl, a, _, rfl, s2.seq hS, fun x hx => ?_⟩
  have s3 := s2.trans (same_new hx (.lst (r.map V.int).reverse))
  have e1 : (m - ((r.map V.int).length : Nat)).toNat = m.toNat - r.length := by omega
  refine ⟨y, x, _, _, rfl, rfl, same_new hx _ _ _ upd_same, upd_same, ?_, fun g hg => ?_⟩
  · rw [rep_flat, List.length_map, List.length_replicate, List.length_reverse]; omega
  have s4 := s3.trans (same_new hg (.lst ((List.replicate (m - ((r.map V.int).length : Nat)).toNat [V.int 0]).flatten ++ (r.map V.int).reverse)))
  have eg : (List.replicate (m - ((r.map V.int).length : Nat)).toNat [V.int 0]).flatten ++ (r.map V.int).reverse = (gapsM r m.toNat).map V.int := by
    unfold gapsM
    rw [rep_flat, e1, List.map_append, List.map_reverse]
  rw [eg] at s4 ⊢
  have hgl := gaps_len (r := r) (m := m.toNat) (by omega)
  have hgl2 : ((gapsM r m.toNat).map V.int).length = m.toNat := by rw [List.length_map]; exact hgl
  refine ⟨_, rfl, g, rfl, ⟨_, SqL.of upd_same⟩, fun D hD => comp_enum (K := K) (a := g) (xs := (gapsM r m.toNat).map V.int)
    (fun i ys σ H2 => ∃ u v : Option V, σ = [u, v] ∧ Same H H2 ∧ H2 g = some (.lst ((gapsM r m.toNat).map V.int)) ∧ H2 D = some (.lst ys) ∧ ys = ((List.range i).map fun (k : Nat) => (k : Int) + (gapsM r m.toNat).getD k 0).map V.int)
    ⟨none, none, rfl, s4.trans (same_new hD _), same_new hD _ _ _ upd_same, upd_same, rfl⟩ (fun i ys σ H2 _ ⟨_, _, _, _, z, _⟩ => SqL.of z) ?_ ?_⟩
  · rintro i y ys σ H2 t hi ⟨u, v, rfl, s5, hg5, hD5, rfl⟩ ht
    have hil : i < ((gapsM r m.toNat).map V.int).length := (List.getElem?_eq_some_iff.mp hi).1
    have hil2 : i < (gapsM r m.toNat).length := by rw [List.length_map] at hil; exact hil
    obtain rfl : y = V.int ((gapsM r m.toNat).getD i 0) := by
      rw [List.getElem?_map, getD_of hil2] at hi
      exact (Option.some.inj hi).symm
    have st := same_new ht (.tup [.int (i : Int), .int ((gapsM r m.toNat).getD i 0)])
    refine ⟨t, _, rfl, SqT.of upd_same, rfl, _, _, rfl, _, _, rfl, rfl, ?_⟩
    refine ⟨_, rfl, _, rfl, _, _, rfl, rfl, st _ _ hD5, ?_, _, _, rfl, ?_, ?_, upd_same, ?_⟩
    · rw [List.length_map, List.length_map, List.length_range]
      exact small1000 (by omega)
    · exact same_upd (s5.trans st) (s4.free hD)
    · rw [upd_ne (fun z => by rw [z] at hD; rw [upd_same] at hD; cases hD)]
      exact st _ _ hg5
    · rw [List.range_succ, List.map_append, List.map_append]
      rfl
  · rintro ys σ H2 ⟨u, v, rfl, s5, hg5, hD5, rfl⟩
    refine q D H2 s5 (s4.free hD) ?_
    rw [hgl2] at hD5
    exact hD5


theorem ok_row_of (T : Tx K mg f_beads d_beads f_row_of d_row_of f_check_places d_check_places f_core d_core f_quotient d_quotient f_is_core d_is_core f_charges d_charges f_core_of d_core_of f_joined d_joined f_check_rods d_check_rods f_share d_share f_parted d_parted f_heights_on d_heights_on f_laid d_laid f_ldrawn d_ldrawn f_lwhole d_lwhole f_lrow d_lrow f_lrows d_lrows f_lrow_by d_lrow_by f_ltold d_ltold f_lcharges_by d_lcharges_by c_NoRods c_NoCore c_NoQuotient c_NoCharges) : FnOk P w K mg base CX0 2 f_row_of d_row_of ["places"] (spRowOf K) := by
  have G_check_places : FnOk P w K mg base CX0 1 f_check_places d_check_places ["places"] (spCheck K) := ok_check_places T
  refine T.F_row_of.ok sc_row_of (fun vs H Q E h => ?_) (fun cdv A outer s H vs Q E hr h => ?_)
  · obtain ⟨a, ns, rfl, _⟩ := h
    rfl
  obtain ⟨a, ns, rfl, hS, hrise, hlen, q⟩ := h
  refine ⟨_, (pss_cons (ps_expr (pe_call G_check_places (hr.mono (by decide)) rfl T.m_check_places T.F_check_places.kp T.b_check_places .nil pass0 (pa_cons (pv 0) pa_nil)))
      (pss_cons (ps_setC (i := 1) ["places", "gaps"] ["lower", "place"] [none, none] (defScope s_row_of) rfl sc_row_of.nd rfl (Or.inl rfl) (pi_enum rfl T.z_enumerate (pa_cons (pv 0) pa_nil)) (fun _ _ _ _ => (pg_tupK (K := K) (n := 2) rfl rfl (pgs_cons (pg_name (i := 0) (show List.Nodup (["lower", "place"] : List Str) by decide +kernel) rfl (Or.inl rfl) (Or.inr rfl)) (pgs_cons (pg_name (i := 1) (show List.Nodup (["lower", "place"] : List Str) by decide +kernel) rfl (Or.inl rfl) (Or.inr rfl)) pgs_nil)))) (fun _ _ _ _ => pif_nil) (fun _ _ _ _ => (pe_op op_sub (pv 1) (pv 0))))
      (pss_one (ps_ret (pe_comp ["places", "gaps"] ["gap"] [none] (defScope s_row_of) rfl (pi_rev rfl T.z_reversed (pa_cons (pv 1) pa_nil)) (fun _ _ _ _ => (pg_name (i := 0) (show List.Nodup (["gap"] : List Str) by decide +kernel) rfl (Or.inl rfl) (Or.inr rfl))) (fun _ _ _ _ => (pif_one (pt_cmpR op_gt (pv 0) pe_int (nomark _)))) (fun _ _ _ _ => (pv 0))))))), ?_⟩
  have hl : (ns.map V.int).length = ns.length := List.length_map _
  refine ⟨_, rfl, a, ns, rfl, hS, hrise, ?_⟩
  refine ⟨_, rfl, a, rfl, ⟨_, hS⟩, fun D hD => comp_enum (K := K) (a := a) (xs := ns.map V.int)
    (fun i ys σ H2 => ∃ u v : Option V, σ = [u, v] ∧ Same H H2 ∧ H2 D = some (.lst ys) ∧ ys = ((List.range i).map fun (k : Nat) => ns.getD k 0 - (k : Int)).map V.int)
    ⟨none, none, rfl, same_new hD _, upd_same, rfl⟩ (fun i ys σ H2 _ ⟨_, _, _, z, _⟩ => z.seq hS) ?_ ?_⟩
  · rintro i y ys σ H2 t hi ⟨u, v, rfl, s5, hD5, rfl⟩ ht
    have hil : i < (ns.map V.int).length := (List.getElem?_eq_some_iff.mp hi).1
    rw [hl] at hil
    obtain rfl : y = V.int (ns.getD i 0) := by
      rw [List.getElem?_map, getD_of hil] at hi
      exact (Option.some.inj hi).symm
    have st := same_new ht (.tup [.int (i : Int), .int (ns.getD i 0)])
    refine ⟨t, _, rfl, SqT.of upd_same, rfl, _, _, rfl, _, _, rfl, rfl, ?_⟩
    refine ⟨_, rfl, _, rfl, _, _, rfl, rfl, st _ _ hD5, ?_, _, _, rfl, ?_, upd_same, ?_⟩
    · rw [List.length_map, List.length_map, List.length_range]
      exact small1000 (by omega)
    · exact same_upd (s5.trans st) hD
    · rw [List.range_succ, List.map_append, List.map_append]
      rfl
  · rintro ys σ H2 ⟨u, v, rfl, s5, hD5, rfl⟩
    have hgl : (gapsOf ns).length = ns.length := gapsOf_len ns
    have hD6 : H2 D = some (.lst ((gapsOf ns).map V.int)) := by rw [hl] at hD5; exact hD5
    have hgl2 : ((gapsOf ns).map V.int).length = ns.length := by rw [List.length_map]; exact hgl
    refine ⟨_, rfl, D, _, rfl, SqL.of hD6, fun D2 hD2 => comp_rev (K := K) (a := D) (xs := (gapsOf ns).map V.int) rfl
      (fun i ys σ H3 => ∃ u : Option V, σ = [u] ∧ Same H2 H3 ∧ H3 D2 = some (.lst ys) ∧ ys = (((gapsOf ns).reverse.take i).filter fun g => decide (0 < g)).map V.int)
      ⟨none, rfl, same_new hD2 _, upd_same, rfl⟩ (fun i ys σ H3 _ ⟨_, _, z, _⟩ => SqL.of (z _ _ hD6)) ?_ ?_⟩
    · rintro i x ys σ H3 hi ⟨u, rfl, s6, hD7, rfl⟩
      rw [← List.map_reverse] at hi
      have hil : i < ((gapsOf ns).reverse.map V.int).length := (List.getElem?_eq_some_iff.mp hi).1
      have hil2 : i < (gapsOf ns).reverse.length := by rw [List.length_map] at hil; exact hil
      obtain rfl : x = V.int ((gapsOf ns).reverse.getD i 0) := by
        rw [List.getElem?_map, getD_of hil2] at hi
        exact (Option.some.inj hi).symm
      have step := take_succ_filter (fun g => decide (0 < g)) (gapsOf ns).reverse i ((gapsOf ns).reverse.getD i 0) (getD_of hil2)
      refine ⟨_, rfl, _, _, rfl, rfl, _, rfl, ?_⟩
      refine ite2 (fun c => ?_) (fun c => ?_)
      · refine ⟨_, rfl, hD7, ?_, _, rfl, same_upd s6 hD2, upd_same, ?_⟩
        · have z := List.length_filter_le (fun g : Int => decide (0 < g)) ((gapsOf ns).reverse.take i)
          rw [List.length_map]
          rw [List.length_take, List.length_reverse] at z
          exact small1000 (by omega)
        · rw [step, if_pos c, List.map_append]
          rfl
      · refine ⟨_, rfl, s6, hD7, ?_⟩
        rw [step, if_neg c, List.append_nil]
    · rintro ys σ H3 ⟨u, rfl, s6, hD7, rfl⟩
      refine q D2 H3 (s5.trans s6) (s5.free hD2) ?_
      have e : (gapsOf ns).reverse.take ((gapsOf ns).map V.int).length = (gapsOf ns).reverse := List.take_of_length_le (by rw [List.length_reverse, List.length_map]; exact Nat.le_refl _)
      rw [e] at hD7
      exact hD7


theorem ok_check_rodsX (T : Tx K mg f_beads d_beads f_row_of d_row_of f_check_places d_check_places f_core d_core f_quotient d_quotient f_is_core d_is_core f_charges d_charges f_core_of d_core_of f_joined d_joined f_check_rods d_check_rods f_share d_share f_parted d_parted f_heights_on d_heights_on f_laid d_laid f_ldrawn d_ldrawn f_lwhole d_lwhole f_lrow d_lrow f_lrows d_lrows f_lrow_by d_lrow_by f_ltold d_ltold f_lcharges_by d_lcharges_by c_NoRods c_NoCore c_NoQuotient c_NoCharges) : FnOk P w K mg base (CX1 P w) 1 f_check_rods d_check_rods ["rods"] (spCheckRods c_NoRods) := by
  refine L3.Fun.okX T.F_check_rods sc_check_rods (fun vs H Q E h => ?_) (fun cdv A outer s H vs Q E hr h => ?_)
  · obtain ⟨r, rfl, _⟩ := h
    rfl
  obtain ⟨r, rfl, hE, q⟩ := h
  refine ⟨_, (pss_one (ps_if (PW.pt (pw_or (pt_cmpR op_lt (pv 0) pe_int (nomark _)) (pw_or1 (pt_cmpR op_gt (pv 0) pe_int (nomark _))))) (pss_one (ps_raise rfl T.C_NoRods T.x_NoRods (pa_cons pe_str pa_nil))) pss_nil)), ?_⟩
  refine ⟨_, rfl, _, _, rfl, rfl, _, rfl, ite2 (fun c => iteT ?_) (fun c => ?_)⟩
  · exact ⟨(by show 1 ≤ sizeLine; decide), hE (.inl (of_decide_eq_true c))⟩
  · have c' : ¬ r < 1 := fun z => c (decide_eq_true z)
    refine ⟨_, rfl, _, _, rfl, rfl, _, rfl, ite2 (fun c2 => ?_) (fun c2 => ?_)⟩
    · exact ⟨(by show 1 ≤ sizeLine; decide), hE (.inr (of_decide_eq_true c2))⟩
    · have c2' : ¬ 8 < r := fun z => c2 (decide_eq_true z)
      exact q (by omega) (by omega)


theorem ok_share (T : Tx K mg f_beads d_beads f_row_of d_row_of f_check_places d_check_places f_core d_core f_quotient d_quotient f_is_core d_is_core f_charges d_charges f_core_of d_core_of f_joined d_joined f_check_rods d_check_rods f_share d_share f_parted d_parted f_heights_on d_heights_on f_laid d_laid f_ldrawn d_ldrawn f_lwhole d_lwhole f_lrow d_lrow f_lrows d_lrows f_lrow_by d_lrow_by f_ltold d_ltold f_lcharges_by d_lcharges_by c_NoRods c_NoCore c_NoQuotient c_NoCharges) : FnOk P w K mg base CX0 1 f_share d_share ["row", "rods"] (spShare K) := by
  refine T.F_share.ok sc_share (fun vs H Q E h => ?_) (fun cdv A outer s H vs Q E hr h => ?_)
  · obtain ⟨a, r, t, rfl, _⟩ := h
    rfl
  obtain ⟨a, r, t, rfl, hS, h1, h8, q⟩ := h
  refine ⟨_, (pss_one (ps_ret (pe_op op_fdiv (pe_op op_sub (pe_op op_add (pe_callB call_len_seq rfl T.z_len PySem.boot_len (pa_cons (pv 0) pa_nil)) (pv 1)) pe_int) (pv 1)))), ?_⟩
  have hl : (r.map V.int).length = r.length := List.length_map _
  refine ⟨_, rfl, a, _, rfl, .inl hS, _, rfl, _, _, rfl, rfl, _, _, rfl, rfl, _, rfl, _, _, rfl, rfl, ⟨by omega, by omega⟩, ?_⟩
  rw [hl]
  exact q
theorem ok_heights_on (T : Tx K mg f_beads d_beads f_row_of d_row_of f_check_places d_check_places f_core d_core f_quotient d_quotient f_is_core d_is_core f_charges d_charges f_core_of d_core_of f_joined d_joined f_check_rods d_check_rods f_share d_share f_parted d_parted f_heights_on d_heights_on f_laid d_laid f_ldrawn d_ldrawn f_lwhole d_lwhole f_lrow d_lrow f_lrows d_lrows f_lrow_by d_lrow_by f_ltold d_ltold f_lcharges_by d_lcharges_by c_NoRods c_NoCore c_NoQuotient c_NoCharges) : FnOk P w K mg base CX0 1 f_heights_on d_heights_on ["places", "rods", "rod"] (spHOn K) := by
  refine T.F_heights_on.ok sc_heights_on (fun vs H Q E h => ?_) (fun cdv A outer s H vs Q E hr h => ?_)
  · obtain ⟨a, ns, t, k, rfl, _⟩ := h
    rfl
  obtain ⟨a, ns, t, k, rfl, hS, h1, h8, hlen, q⟩ := h
  refine ⟨_, (pss_one (ps_ret (pe_comp ["places", "rods", "rod"] ["place", "rod", "rods"] [none, some 2, some 1] (defScope s_heights_on) rfl (pi_list (pv 0)) (fun _ _ _ _ => (pg_name (i := 0) (show List.Nodup (["place", "rod", "rods"] : List Str) by decide +kernel) rfl (Or.inl rfl) (Or.inr rfl))) (fun _ _ _ _ => (pif_one (pt_cmpR op_eq (pe_op op_mod (pv 0) (pv 2)) (pv 1) (nomark _)))) (fun _ _ _ _ => (pe_op op_fdiv (pv 0) (pv 2)))))), ?_⟩
  have hl : (ns.map V.int).length = ns.length := List.length_map _
  refine ⟨_, rfl, a, rfl, ⟨_, hS⟩, fun D hD => comp_list (K := K) (a := a) (xs := ns.map V.int)
    (fun i ys σ H2 => ∃ u : Option V, σ = [u, some (.int k), some (.int t)] ∧ Same H H2 ∧ H2 D = some (.lst ys) ∧ ys = (hOn (ns.take i) t k).map V.int)
    ⟨none, rfl, same_new hD _, upd_same, rfl⟩ (fun i ys σ H2 _ ⟨_, _, z, _⟩ => z.seq hS) ?_ ?_⟩
  · rintro i y ys σ H2 hi ⟨u, rfl, s2, hD2, rfl⟩
    have hil : i < (ns.map V.int).length := (List.getElem?_eq_some_iff.mp hi).1
    rw [hl] at hil
    obtain rfl : y = V.int (ns.getD i 0) := by
      rw [List.getElem?_map, getD_of hil] at hi
      exact (Option.some.inj hi).symm
    refine ⟨_, rfl, _, rfl, _, _, rfl, rfl, (by show 0 < t; omega), _, rfl, rfl, _, rfl, ?_⟩
    refine ite2 (fun c => ?_) (fun c => ?_)
    · have c' : V.int (ns.getD i 0 % t) = V.int k := of_decide_eq_true c
      refine ⟨_, rfl, _, rfl, _, _, rfl, rfl, ⟨by omega, by omega⟩, hD2, ?_, _, rfl, same_upd s2 hD, upd_same, ?_⟩
      · have z := hOn_len (ns.take i) t k
        rw [List.length_map]
        rw [List.length_take] at z
        exact small1000 (by omega)
      · rw [hOn_succ hil, if_pos (V.int.inj c'), List.map_append]
        rfl
    · have c' : ¬ ns.getD i 0 % t = k := fun z => c (decide_eq_true (show V.int (ns.getD i 0 % t) = V.int k by rw [z]))
      refine ⟨_, rfl, s2, hD2, ?_⟩
      rw [hOn_succ hil, if_neg c', List.append_nil]
  · rintro ys σ H2 ⟨u, rfl, s2, hD2, rfl⟩
    rw [hl, List.take_length] at hD2
    exact q D H2 s2 hD hD2
theorem ok_parted (T : Tx K mg f_beads d_beads f_row_of d_row_of f_check_places d_check_places f_core d_core f_quotient d_quotient f_is_core d_is_core f_charges d_charges f_core_of d_core_of f_joined d_joined f_check_rods d_check_rods f_share d_share f_parted d_parted f_heights_on d_heights_on f_laid d_laid f_ldrawn d_ldrawn f_lwhole d_lwhole f_lrow d_lrow f_lrows d_lrows f_lrow_by d_lrow_by f_ltold d_ltold f_lcharges_by d_lcharges_by c_NoRods c_NoCore c_NoQuotient c_NoCharges) : FnOk P w K mg base CX0 2 f_parted d_parted ["row", "rods"] (spParted K) := by
  have G_share : FnOk P w K mg base CX0 1 f_share d_share ["row", "rods"] (spShare K) := ok_share T
  have G_beads : FnOk P w K mg base CX0 1 f_beads d_beads ["row", "many"] (spBeads K) := ok_beads T
  have G_heights_on : FnOk P w K mg base CX0 1 f_heights_on d_heights_on ["places", "rods", "rod"] (spHOn K) := ok_heights_on T
  refine T.F_parted.ok sc_parted (fun vs H Q E h => ?_) (fun cdv A outer s H vs Q E hr h => ?_)
  · obtain ⟨a, r, t, rfl, _⟩ := h
    rfl
  obtain ⟨a, r, t, rfl, hS, h1, h8, hlen, q⟩ := h
  have hsm := share_mul r h1
  refine ⟨_, (pss_cons (ps_set (i := 2) sc_parted.nd rfl (Or.inr rfl) (pe_call G_beads (hr.mono (by decide)) rfl T.m_beads T.F_beads.kp T.b_beads .nil pass0 (pa_cons (pv 0) (pa_cons (pe_op op_mul (pe_call G_share (hr.mono (by decide)) rfl T.m_share T.F_share.kp T.b_share .nil pass0 (pa_cons (pv 0) (pa_cons (pv 1) pa_nil))) (pv 1)) pa_nil))))
      (pss_one (ps_ret (pe_comp ["row", "rods", "places"] ["rod", "places", "rods"] [none, some 2, some 1] (defScope s_parted) rfl (pi_range1 rfl T.z_range (pa_cons (pv 1) pa_nil)) (fun _ _ _ _ => (pg_name (i := 0) (show List.Nodup (["rod", "places", "rods"] : List Str) by decide +kernel) rfl (Or.inl rfl) (Or.inr rfl))) (fun _ _ _ _ => pif_nil) (fun _ _ _ _ => (pe_call G_heights_on (hr.mono (by decide)) rfl T.m_heights_on T.F_heights_on.kp T.b_heights_on .nil pass0 (pa_cons (pv 1) (pa_cons (pv 2) (pa_cons (pv 0) pa_nil))))))))), ?_⟩
  refine ⟨_, rfl, _, rfl, _, rfl, a, r, t, rfl, hS, h1, h8, _, rfl, _, _, rfl, rfl, .inr ⟨by omega, by omega⟩, a, r, shareM r t * t, rfl, hS, hsm.1, by omega, fun pl H1 s1 hpl hpl1 => ?_⟩
  refine ⟨_, rfl, _, rfl, by omega, by omega, fun D hD => comp_range (lo := 0) (n := t.toNat)
    (fun i ys σ H2 => ∃ (u : Option V) (ps : List Addr), σ = [u, some (.ref pl), some (.int t)] ∧ Same H1 H2 ∧ H2 D = some (.lst ys) ∧ ys = ps.map V.ref ∧ Made H1 H2 D ps i (fun k => hOn (beadsM r (shareM r t * t).toNat) t (0 + (k : Int))))
    ⟨none, [], rfl, same_new hD _, upd_same, rfl, Made.zero⟩ ?_ ?_⟩
  · rintro i ys σ H2 hi ⟨u, ps, rfl, s2, hD2, rfl, M⟩
    refine ⟨_, rfl, _, rfl, _, rfl, pl, _, t, 0 + (i : Int), rfl, SqL.of (s2 _ _ hpl1), h1, h8, by rw [beads_len]; omega, fun p H3 s3 hp hp3 => ?_⟩
    refine ⟨s3 _ _ hD2, ?_, _, ps ++ [p], rfl, same_upd (s2.trans s3) hD, upd_same, ?_, M.snoc s2 s3 hp hp3 ⟨_, hD2⟩⟩
    · rw [List.length_map, M.len]
      exact small1000 (by omega)
    · rw [List.map_append]
      rfl
  · rintro ys σ H2 ⟨u, ps, rfl, s2, hD2, rfl, M⟩
    refine q D ps H2 (s1.trans s2) (s1.free hD) ⟨⟨by rw [parted_len]; exact M.len, hD2, fun k hk => ?_⟩, fun x hx => s1.free (M.fresh x hx), M.nd, M.np⟩
    rw [parted_len] at hk
    rw [parted_at hk]
    exact M.each k hk
theorem ok_chargesX (T : Tx K mg f_beads d_beads f_row_of d_row_of f_check_places d_check_places f_core d_core f_quotient d_quotient f_is_core d_is_core f_charges d_charges f_core_of d_core_of f_joined d_joined f_check_rods d_check_rods f_share d_share f_parted d_parted f_heights_on d_heights_on f_laid d_laid f_ldrawn d_ldrawn f_lwhole d_lwhole f_lrow d_lrow f_lrows d_lrows f_lrow_by d_lrow_by f_ltold d_ltold f_lcharges_by d_lcharges_by c_NoRods c_NoCore c_NoQuotient c_NoCharges) : FnOk P w K mg base (CX1 P w) 3 f_charges d_charges ["row", "rods"] (spChargesX K c_NoRods) := by
  have G_check_rods : FnOk P w K mg base (CX1 P w) 1 f_check_rods d_check_rods ["rods"] (spCheckRods c_NoRods) := ok_check_rodsX T
  have G_share : FnOk P w K mg base CX0 1 f_share d_share ["row", "rods"] (spShare K) := ok_share T
  have G_parted : FnOk P w K mg base CX0 2 f_parted d_parted ["row", "rods"] (spParted K) := ok_parted T
  refine L3.Fun.okX T.F_charges sc_charges (fun vs H Q E h => ?_) (fun cdv A outer s H vs Q E hr h => ?_)
  · obtain ⟨a, r, t, rfl, _⟩ := h
    rfl
  obtain ⟨a, r, t, rfl, hS, hlen, hE, q⟩ := h
  refine ⟨_, (pss_cons (ps_expr (pe_call G_check_rods (hr.mono (by decide)) rfl T.m_check_rods T.F_check_rods.kp T.b_check_rods .nil pass1 (pa_cons (pv 1) pa_nil)))
      (pss_one (ps_ret (pe_comp ["row", "rods"] ["heights", "row", "rods"] [none, some 0, some 1] (defScope s_charges) rfl (pi_list (pe_call G_parted (hr.mono (by decide)) rfl T.m_parted T.F_parted.kp T.b_parted .nil pass0 (pa_cons (pv 0) (pa_cons (pv 1) pa_nil)))) (fun _ _ _ _ => (pg_name (i := 0) (show List.Nodup (["heights", "row", "rods"] : List Str) by decide +kernel) rfl (Or.inl rfl) (Or.inr rfl))) (fun _ _ _ _ => pif_nil) (fun _ _ _ _ => (pe_op op_sub (pe_callB (call_len_seqK (K := K) rfl) rfl T.z_len PySem.boot_len (pa_cons (pv 0) pa_nil)) (pe_call G_share (hr.mono (by decide)) rfl T.m_share T.F_share.kp T.b_share .nil pass0 (pa_cons (pv 1) (pa_cons (pv 2) pa_nil))))))))), ?_⟩
  refine ⟨_, rfl, t, rfl, hE, fun h1 h8 => ?_⟩
  have q := q h1 h8
  refine ⟨_, rfl, _, rfl, a, r, t, rfl, hS, h1, h8, hlen, fun pp ps H1 s1 hpp M => ?_⟩
  have hpl : (ps.map V.ref).length = t.toNat := by rw [List.length_map, M.rd.len, parted_len]
  refine ⟨pp, rfl, ⟨_, SqL.of M.rd.at'⟩, fun D hD => comp_list (K := K) (a := pp) (xs := ps.map V.ref)
    (fun i ys σ H2 => ∃ u : Option V, σ = [u, some (.ref a), some (.int t)] ∧ Same H1 H2 ∧ H2 D = some (.lst ys) ∧ ys = (((partedM r t).take i).map fun h => (h.length : Int) - shareM r t).map V.int)
    ⟨none, rfl, same_new hD _, upd_same, rfl⟩ (fun i ys σ H2 _ ⟨_, _, z, _⟩ => SqL.of (z _ _ M.rd.at')) ?_ ?_⟩
  · rintro i y ys σ H2 hi ⟨u, rfl, s2, hD2, rfl⟩
    have hil : i < (ps.map V.ref).length := (List.getElem?_eq_some_iff.mp hi).1
    have hip : i < ps.length := by rw [List.length_map] at hil; exact hil
    have hiq : i < (partedM r t).length := by rw [← M.rd.len]; exact hip
    obtain rfl : y = V.ref (ps.getD i 0) := by
      rw [List.getElem?_map, getA_of hip] at hi
      exact (Option.some.inj hi).symm
    have row := s2 _ _ (M.rd.each i hiq)
    refine ⟨_, rfl, _, _, rfl, .inl (SqL.of row), _, rfl, _, rfl, a, r, t, rfl, s2.seq (s1.seq hS), h1, h8, _, _, rfl, rfl, hD2, ?_, _, rfl, same_upd s2 hD, upd_same, ?_⟩
    · rw [List.length_map, List.length_map, List.length_take]
      rw [hpl] at hil
      exact small1000 (by omega)
    · have e : (partedM r t)[i] = (partedM r t).getD i [] := by rw [List.getD_eq_getElem?_getD, List.getElem?_eq_getElem hiq]; rfl
      rw [List.take_succ_eq_append_getElem hiq, List.map_append, List.map_append, e, List.length_map]
      rfl
  · rintro ys σ H2 ⟨u, rfl, s2, hD2, rfl⟩
    refine q D H2 (s1.trans s2) (s1.free hD) ?_
    rw [List.take_of_length_le (by rw [hpl, parted_len]; exact Nat.le_refl _)] at hD2
    exact hD2
theorem ok_charges (T : Tx K mg f_beads d_beads f_row_of d_row_of f_check_places d_check_places f_core d_core f_quotient d_quotient f_is_core d_is_core f_charges d_charges f_core_of d_core_of f_joined d_joined f_check_rods d_check_rods f_share d_share f_parted d_parted f_heights_on d_heights_on f_laid d_laid f_ldrawn d_ldrawn f_lwhole d_lwhole f_lrow d_lrow f_lrows d_lrows f_lrow_by d_lrow_by f_ltold d_ltold f_lcharges_by d_lcharges_by c_NoRods c_NoCore c_NoQuotient c_NoCharges) : FnOk P w K mg base CX0 3 f_charges d_charges ["row", "rods"] (fun vs H Q _ => ∃ (a : Addr) (r : List Int) (t : Int), vs = [.ref a, .int t] ∧ SqL K H a (r.map V.int) ∧ r.length ≤ 100 ∧ 1 ≤ t ∧ t ≤ 8 ∧ ∀ (p : Addr) (H' : Hp), Same H H' → H p = none → H' p = some (.lst ((chargesM r t).map V.int)) → Q (.ref p) H') :=
  L3.FnOk.to0 (ok_chargesX T) fun vs H Q E ⟨a, r, t, e, hS, hl, h1, h8, q⟩ => ⟨a, r, t, e, hS, hl, fun z => by rcases z with z | z <;> omega, fun _ _ => q⟩

theorem ok_laid (T : Tx K mg f_beads d_beads f_row_of d_row_of f_check_places d_check_places f_core d_core f_quotient d_quotient f_is_core d_is_core f_charges d_charges f_core_of d_core_of f_joined d_joined f_check_rods d_check_rods f_share d_share f_parted d_parted f_heights_on d_heights_on f_laid d_laid f_ldrawn d_ldrawn f_lwhole d_lwhole f_lrow d_lrow f_lrows d_lrows f_lrow_by d_lrow_by f_ltold d_ltold f_lcharges_by d_lcharges_by c_NoRods c_NoCore c_NoQuotient c_NoCharges) : FnOk P w K mg base CX0 3 f_laid d_laid ["numbers", "rows"] (spLaid K) := by
  have G_beads : FnOk P w K mg base CX0 1 f_beads d_beads ["row", "many"] (spBeads K) := ok_beads T
  have G_row_of : FnOk P w K mg base CX0 2 f_row_of d_row_of ["places"] (spRowOf K) := ok_row_of T
  refine T.F_laid.ok sc_laid (fun vs H Q E h => ?_) (fun cdv A outer s H vs Q E hr h => ?_)
  · obtain ⟨a, b, ns, qs, rows, rfl, _⟩ := h
    rfl
  obtain ⟨a, b, ns, qs, rows, rfl, hS, hR, hO, q⟩ := h
  have hs : sizeLine = 16777216 := sizeLine_eq
  have hql : (qs.map V.ref).length = rows.length := by rw [List.length_map, hR.len]
  have hnl : (ns.map V.int).length = rows.length := by rw [List.length_map, hO.len]
  have h1 := hO.one
  have h8 := hO.eight
  have hle := hO.len
  have hfew : ∀ k : Nat, k < rows.length → leastM ns rows + ns.getD k 0 ≤ 100 := fun k hk => hO.few _ (by rw [← getD_elem (by omega)]; exact List.getElem_mem _)
  refine ⟨_, (pss_cons (ps_set (i := 2) sc_laid.nd rfl (Or.inr rfl) (pe_callB call_len_seq rfl T.z_len PySem.boot_len (pa_cons (pv 1) pa_nil)))
      (pss_cons (ps_set (i := 3) sc_laid.nd rfl (Or.inl rfl) (pe_callB (call_max_list rfl) rfl T.z_max boot_max (pa_cons (pe_comp ["numbers", "rows", "rods", "least", "places", "rod", "row", "heights"] ["row", "number"] [none, none] (defScope s_laid) rfl (pi_zip rfl T.z_zip (pa_cons (pv 1) (pa_cons (pv 0) pa_nil))) (fun _ _ _ _ => (pg_tupK (K := K) (n := 2) rfl rfl (pgs_cons (pg_name (i := 0) (show List.Nodup (["row", "number"] : List Str) by decide +kernel) rfl (Or.inl rfl) (Or.inr rfl)) (pgs_cons (pg_name (i := 1) (show List.Nodup (["row", "number"] : List Str) by decide +kernel) rfl (Or.inl rfl) (Or.inr rfl)) pgs_nil)))) (fun _ _ _ _ => pif_nil) (fun _ _ _ _ => (pe_op op_sub (pe_callB (call_len_seqK (K := K) rfl) rfl T.z_len PySem.boot_len (pa_cons (pv 0) pa_nil)) (pv 1)))) pa_nil)))
      (pss_cons (ps_set (i := 4) sc_laid.nd rfl (Or.inl rfl) (pe_lst pa_nil))
      (pss_cons (ps_for PassesOwn.never rfl (pi_enum rfl T.z_enumerate (pa_cons (pv 1) pa_nil)) (pg_tup rfl (pgs_cons (pg_name (i := 5) sc_laid.nd rfl (Or.inr rfl)) (pgs_cons (pg_name (i := 6) sc_laid.nd rfl (Or.inl rfl)) pgs_nil))) (pss_cons (ps_set (i := 7) sc_laid.nd rfl (Or.inl rfl) (pe_call G_beads (hr.mono (by decide)) rfl T.m_beads T.F_beads.kp T.b_beads .nil pass0 (pa_cons (pv 6) (pa_cons (pe_op op_add (pv 3) (pe_ix ix_list (pv 0) (pv 5) (fun _ _ => rfl))) pa_nil))))
      (pss_one (ps_expr (pe_bm PySem.F.plainAttrs_list PySem.F.slot_list_extend PySem.F.type_list_extend mt_extend (pv 4) (pa_cons (pe_comp ["numbers", "rows", "rods", "least", "places", "rod", "row", "heights"] ["height", "rod", "rods"] [none, some 5, some 2] (defScope s_laid) rfl (pi_list (pv 7)) (fun _ _ _ _ => (pg_name (i := 0) (show List.Nodup (["height", "rod", "rods"] : List Str) by decide +kernel) rfl (Or.inl rfl) (Or.inr rfl))) (fun _ _ _ _ => pif_nil) (fun _ _ _ _ => (pe_op op_add (pe_op op_mul (pv 0) (pv 2)) (pv 1)))) pa_nil))))))
      (pss_one (ps_ret (pe_call G_row_of (hr.mono (by decide)) rfl T.m_row_of T.F_row_of.kp T.b_row_of .nil pass0 (pa_cons (pe_callB call_sorted_128 rfl T.z_sorted boot_sorted (pa_cons (pv 4) pa_nil)) pa_nil)))))))), ?_⟩
  refine ⟨_, rfl, b, _, rfl, .inl (SqL.of hR.at'), ?_⟩
  rw [hql]
  refine ⟨_, rfl, _, rfl, b, a, _, _, rfl, SqL.of hR.at', hS, fun D hD => comp_zip (K := K) (a := b) (b := a) (xs := qs.map V.ref) (ys := ns.map V.int) (by rw [hnl, hql])
    (fun i zs σ H2 => ∃ u v : Option V, σ = [u, v] ∧ Same H H2 ∧ H2 D = some (.lst zs) ∧ zs = ((List.range i).map fun (k : Nat) => ((rows.getD k []).length : Int) - ns.getD k 0).map V.int)
    ⟨none, none, rfl, same_new hD _, upd_same, rfl⟩ (fun i ys σ H2 _ ⟨_, _, _, z, _⟩ => ⟨SqL.of (z _ _ hR.at'), z.seq hS⟩) ?_ ?_⟩
  · rintro i x y zs σ H2 t hi hj ⟨u, v, rfl, s2, hD2, rfl⟩ ht
    have hil : i < (qs.map V.ref).length := (List.getElem?_eq_some_iff.mp hi).1
    have hiq : i < qs.length := by rw [List.length_map] at hil; exact hil
    rw [hql] at hil
    obtain rfl : x = V.ref (qs.getD i 0) := by
      rw [List.getElem?_map, getA_of hiq] at hi
      exact (Option.some.inj hi).symm
    obtain rfl : y = V.int (ns.getD i 0) := by
      rw [List.getElem?_map, getD_of (show i < ns.length by omega)] at hj
      exact (Option.some.inj hj).symm
    have st := same_new ht (.tup [.ref (qs.getD i 0), .int (ns.getD i 0)])
    have row := st _ _ (s2 _ _ (hR.each i hil))
    refine ⟨t, _, rfl, SqT.of upd_same, rfl, _, _, rfl, _, _, rfl, rfl, ?_⟩
    refine ⟨_, rfl, _, _, rfl, .inl (SqL.of row), _, rfl, _, _, rfl, rfl, st _ _ hD2, ?_, _, _, rfl, ?_, upd_same, ?_⟩
    · rw [List.length_map, List.length_map, List.length_range]
      exact small1000 (by omega)
    · exact same_upd (s2.trans st) hD
    · rw [List.range_succ, List.map_append, List.map_append, List.length_map]
      rfl
  rintro zs σ H1 ⟨u, v, rfl, s1, hD1, rfl⟩
  rw [hql] at hD1
  have hD1' : H1 D = some (.lst ((lacksM ns rows).map V.int)) := hD1
  refine ⟨D, lacksM ns rows, rfl, SqL.of hD1', by rw [lacks_len]; omega, fun M hM hMb => ?_⟩
  have eM : M = leastM ns rows := maxI_one hM hMb
  subst eM
  refine ⟨(by show 0 ≤ sizeLine; decide), fun pl hpl => ?_⟩
  have s2 := s1.trans (same_new hpl (.lst []))
  have hHpl : H pl = none := s1.free hpl
  refine ⟨_, rfl, b, rfl, ⟨_, SqL.of (s2 _ _ hR.at')⟩, for_enum (K := K) (a := b) (xs := qs.map V.ref)
    (fun i σ J => ∃ (u5 u6 u7 : Option V), σ = [some (.ref a), some (.ref b), some (.int (rows.length : Nat)), some (.int (leastM ns rows)), some (.ref pl), u5, u6, u7] ∧ Same H J ∧ J pl = some (.lst ((placesTo ns rows (leastM ns rows) i).map V.int)))
    ⟨none, none, none, rfl, s2, upd_same⟩ (fun i σ J _ ⟨_, _, _, _, z, _⟩ => SqL.of (z _ _ hR.at')) ?_ ?_⟩
  · rintro i x σ J t hi ⟨u5, u6, u7, rfl, sJ, hJ⟩ ht
    have hil : i < (qs.map V.ref).length := (List.getElem?_eq_some_iff.mp hi).1
    have hiq : i < qs.length := by rw [List.length_map] at hil; exact hil
    rw [hql] at hil
    obtain rfl : x = V.ref (qs.getD i 0) := by
      rw [List.getElem?_map, getA_of hiq] at hi
      exact (Option.some.inj hi).symm
    have st := same_new ht (.tup [.int (i : Int), .ref (qs.getD i 0)])
    have hJt := st _ _ hJ
    have sJt := sJ.trans st
    have hv := at_int (ns := ns) (i := (i : Int)) (by omega) (by omega)
    have ei : ((i : Int)).toNat = i := by omega
    rw [ei] at hv
    refine ⟨t, _, rfl, SqT.of upd_same, rfl, _, _, rfl, _, _, rfl, rfl, ?_⟩
    refine ⟨_, rfl, _, rfl, _, rfl, _, rfl, a, _, _, _, rfl, rfl, sJt.seq hS, hv, _, _, rfl, rfl, qs.getD i 0, rows.getD i [], _, rfl, SqL.of (sJt _ _ (hR.each i hil)), lacks_le hil, by have := hfew i hil; omega, fun hp H3 s3 hhp hhp3 => ?_⟩
    have hbl : ((beadsM (rows.getD i []) (leastM ns rows + ns.getD i 0).toNat).map V.int).length = (leastM ns rows + ns.getD i 0).toNat := by rw [List.length_map, beads_len]
    refine ⟨_, rfl, .inl ⟨rfl, _, SqL.of (s3 _ _ hJt)⟩, _, rfl, hp, rfl, ⟨_, SqL.of hhp3⟩, fun D2 hD2 => comp_list (K := K) (a := hp) (xs := (beadsM (rows.getD i []) (leastM ns rows + ns.getD i 0).toNat).map V.int)
      (fun j ys σ H4 => ∃ u : Option V, σ = [u, some (.int (i : Int)), some (.int (rows.length : Nat))] ∧ Same H3 H4 ∧ H4 D2 = some (.lst ys) ∧ ys = (((beadsM (rows.getD i []) (leastM ns rows + ns.getD i 0).toNat).take j).map fun h => h * (rows.length : Int) + (i : Int)).map V.int)
      ⟨none, rfl, same_new hD2 _, upd_same, rfl⟩ (fun j ys σ H4 _ ⟨_, _, z, _⟩ => SqL.of (z _ _ hhp3)) ?_ ?_⟩
    · rintro j y ys σ H4 hj ⟨u, rfl, s4, hD4, rfl⟩
      have hjl : j < ((beadsM (rows.getD i []) (leastM ns rows + ns.getD i 0).toNat).map V.int).length := (List.getElem?_eq_some_iff.mp hj).1
      have hjb : j < (beadsM (rows.getD i []) (leastM ns rows + ns.getD i 0).toNat).length := by rw [List.length_map] at hjl; exact hjl
      obtain rfl : y = V.int ((beadsM (rows.getD i []) (leastM ns rows + ns.getD i 0).toNat).getD j 0) := by
        rw [List.getElem?_map, getD_of hjb] at hj
        exact (Option.some.inj hj).symm
      refine ⟨_, rfl, _, rfl, _, _, rfl, rfl, .inr ⟨by omega, by omega⟩, _, rfl, _, _, rfl, rfl, hD4, ?_, _, rfl, same_upd s4 hD2, upd_same, ?_⟩
      · have := hfew i hil
        rw [List.length_map, List.length_map, List.length_take, beads_len]
        exact small1000 (by omega)
      · rw [List.take_succ_eq_append_getElem hjb, List.map_append, List.map_append, getD_elem hjb]
        rfl
    · rintro ys σ H4 ⟨u, rfl, s4, hD4, rfl⟩
      rw [hbl] at hD4
      rw [List.take_of_length_le (by rw [beads_len]; exact Nat.le_refl _)] at hD4
      refine ⟨pl, D2, _, _, rfl, rfl, s4 _ _ (s3 _ _ hJt), hD4, ?_, ?_⟩
      · have := hfew i hil
        have := placesTo_len hfew i (by omega)
        simp only [List.length_map, beads_len]
        omega
      · refine ⟨_, _, _, rfl, same_upd (sJt.trans (s3.trans s4)) hHpl, ?_⟩
        rw [upd_same, placesTo_succ, List.map_append]
  rintro σ J ⟨u5, u6, u7, rfl, sJ, hJ⟩
  rw [hql] at hJ
  have hJ' : J pl = some (.lst ((placesM ns rows).map V.int)) := hJ
  refine ⟨_, rfl, pl, _, rfl, SqL.of hJ', hO.size, fun l ms hl hperm hup => ?_⟩
  have ems : ms = sortI (placesM ns rows) := sort_one (hperm.trans (sortI_perm _).symm) hup (sortI_up _)
  subst ems
  have hml : (sortI (placesM ns rows)).length = (placesM ns rows).length := (sortI_perm _).length_eq
  have hsz := hO.size
  have s5 := sJ.trans (same_new hl (.lst ((sortI (placesM ns rows)).map V.int)))
  refine ⟨l, _, rfl, SqL.of upd_same, hO.rise, by omega, fun p H' s6 hp hp' => ?_⟩
  exact q p H' (s5.trans s6) (s5.free hp) hp'
theorem ok_core_ofX (T : Tx K mg f_beads d_beads f_row_of d_row_of f_check_places d_check_places f_core d_core f_quotient d_quotient f_is_core d_is_core f_charges d_charges f_core_of d_core_of f_joined d_joined f_check_rods d_check_rods f_share d_share f_parted d_parted f_heights_on d_heights_on f_laid d_laid f_ldrawn d_ldrawn f_lwhole d_lwhole f_lrow d_lrow f_lrows d_lrows f_lrow_by d_lrow_by f_ltold d_ltold f_lcharges_by d_lcharges_by c_NoRods c_NoCore c_NoQuotient c_NoCharges) : FnOk P w K mg base (CX1 P w) 4 f_core_of d_core_of ["numbers"] (spCoreOfX K c_NoRods c_NoCharges) := by
  have G_check_rods : FnOk P w K mg base (CX1 P w) 1 f_check_rods d_check_rods ["rods"] (spCheckRods c_NoRods) := ok_check_rodsX T
  have G_laid : FnOk P w K mg base CX0 3 f_laid d_laid ["numbers", "rows"] (spLaid K) := ok_laid T
  refine L3.Fun.okX T.F_core_of sc_core_of (fun vs H Q E h => ?_) (fun cdv A outer s H vs Q E hr h => ?_)
  · obtain ⟨a, ns, rfl, _⟩ := h
    rfl
  obtain ⟨a, ns, rfl, hS, hlen, hbd, hE, hE2, q⟩ := h
  refine ⟨_, (pss_cons (ps_expr (pe_call G_check_rods (hr.mono (by decide)) rfl T.m_check_rods T.F_check_rods.kp T.b_check_rods .nil pass1 (pa_cons (pe_callB call_len_seq rfl T.z_len PySem.boot_len (pa_cons (pv 0) pa_nil)) pa_nil)))
      (pss_cons (ps_if (pt_cmpR op_ne (pe_callB (call_sum_ints rfl) rfl T.z_sum boot_sum (pa_cons (pv 0) pa_nil)) pe_int (nomark _)) (pss_one (ps_raise rfl T.C_NoCharges T.x_NoCharges (pa_cons pe_str pa_nil))) pss_nil)
      (pss_one (ps_ret (pe_call G_laid (hr.mono (by decide)) rfl T.m_laid T.F_laid.kp T.b_laid .nil pass0 (pa_cons (pv 0) (pa_cons (pe_comp ["numbers"] ["number"] [none] (defScope s_core_of) rfl (pi_list (pv 0)) (fun _ _ _ _ => (pg_name (i := 0) (show List.Nodup (["number"] : List Str) by decide +kernel) rfl (Or.inl rfl) (Or.inr rfl))) (fun _ _ _ _ => pif_nil) (fun _ _ _ _ => (pe_lst pa_nil))) pa_nil))))))), ?_⟩
  have hl : (ns.map V.int).length = ns.length := List.length_map _
  refine ⟨_, rfl, a, _, rfl, .inl hS, ?_⟩
  rw [hl]
  refine ⟨_, rfl, hE, fun h1 h8 => ?_⟩
  refine ⟨_, rfl, a, ns, rfl, hS, by omega, fun x hx => by have := hbd x hx; omega, rfl, _, rfl, ite2 (fun c => ?_) (fun c => ?_)⟩
  · refine ⟨(by show 1 ≤ sizeLine; decide), hE2 (by omega) (by omega) fun z => ?_⟩
    rw [z] at c
    exact absurd c (by decide)
  have hsum : ns.sum = 0 := by
    by_cases z : ns.sum = 0
    · exact z
    · refine absurd ?_ c
      rw [show decide (V.int ns.sum = V.int 0) = false from decide_eq_false fun y => z (V.int.inj y)]
      rfl
  obtain ⟨hO, q⟩ := q (by omega) (by omega) hsum
  refine ⟨_, rfl, _, rfl, a, rfl, ⟨_, hS⟩, fun D hD => comp_list (K := K) (a := a) (xs := ns.map V.int)
    (fun i ys σ H2 => ∃ (u : Option V) (ps : List Addr), σ = [u] ∧ Same H H2 ∧ H2 D = some (.lst ys) ∧ ys = ps.map V.ref ∧ Made H H2 D ps i (fun _ => []))
    ⟨none, [], rfl, same_new hD _, upd_same, rfl, Made.zero⟩ (fun i ys σ H2 _ ⟨_, _, _, z, _⟩ => z.seq hS) ?_ ?_⟩
  · rintro i y ys σ H2 hi ⟨u, ps, rfl, s2, hD2, rfl, M⟩
    have hil : i < (ns.map V.int).length := (List.getElem?_eq_some_iff.mp hi).1
    rw [hl] at hil
    refine ⟨(by show 0 ≤ sizeLine; decide), fun p hp => ?_⟩
    have s3 := same_new hp (.lst [])
    refine ⟨s3 _ _ hD2, ?_, _, ps ++ [p], rfl, same_upd (s2.trans s3) hD, upd_same, ?_, M.snoc s2 s3 hp upd_same ⟨_, hD2⟩⟩
    · rw [List.length_map, M.len]
      exact small1000 (by omega)
    · rw [List.map_append]
      rfl
  · rintro ys σ H2 ⟨u, ps, rfl, s2, hD2, rfl, M⟩
    rw [hl] at M
    have hel : (empties ns.length).length = ns.length := by unfold empties; rw [List.length_replicate]
    have hR : LLr H2 D ps (empties ns.length) := ⟨by rw [hel]; exact M.len, hD2, fun k hk => by
      rw [hel] at hk
      have e : (empties ns.length).getD k [] = [] := by
        unfold empties
        rw [List.getD_eq_getElem?_getD, List.getElem?_replicate]
        split <;> rfl
      rw [e]
      exact M.each k hk⟩
    exact ⟨a, D, ns, ps, empties ns.length, rfl, s2.seq hS, hR, hO, fun p H' s3 hp hp' => q p H' (s2.trans s3) (s2.free hp) hp'⟩

theorem ok_coreX (T : Tx K mg f_beads d_beads f_row_of d_row_of f_check_places d_check_places f_core d_core f_quotient d_quotient f_is_core d_is_core f_charges d_charges f_core_of d_core_of f_joined d_joined f_check_rods d_check_rods f_share d_share f_parted d_parted f_heights_on d_heights_on f_laid d_laid f_ldrawn d_ldrawn f_lwhole d_lwhole f_lrow d_lrow f_lrows d_lrows f_lrow_by d_lrow_by f_ltold d_ltold f_lcharges_by d_lcharges_by c_NoRods c_NoCore c_NoQuotient c_NoCharges) : FnOk P w K mg base (CX1 P w) 5 f_core d_core ["row", "rods"] (spCoreX K c_NoRods) := by
  have G_core_of : FnOk P w K mg base (CX1 P w) 4 f_core_of d_core_of ["numbers"] (spCoreOfX K c_NoRods c_NoCharges) := ok_core_ofX T
  have G_charges : FnOk P w K mg base (CX1 P w) 3 f_charges d_charges ["row", "rods"] (spChargesX K c_NoRods) := ok_chargesX T
  refine L3.Fun.okX T.F_core sc_core (fun vs H Q E h => ?_) (fun cdv A outer s H vs Q E hr h => ?_)
  · obtain ⟨a, r, t, rfl, _⟩ := h
    rfl
  obtain ⟨a, r, t, rfl, hS, hlen, hE, q⟩ := h
  refine ⟨_, (pss_one (ps_ret (pe_call G_core_of (hr.mono (by decide)) rfl T.m_core_of T.F_core_of.kp T.b_core_of .nil pass1 (pa_cons (pe_call G_charges (hr.mono (by decide)) rfl T.m_charges T.F_charges.kp T.b_charges .nil pass1 (pa_cons (pv 0) (pa_cons (pv 1) pa_nil))) pa_nil)))), ?_⟩
  refine ⟨_, rfl, _, rfl, a, r, t, rfl, hS, hlen, hE, fun h1 h8 p H1 s1 hp hp1 => ?_⟩
  obtain ⟨O, q⟩ := q h1 h8
  have hcl := charges_len r t
  have e : empties (chargesM r t).length = empties t.toNat := by rw [hcl]
  refine ⟨p, chargesM r t, rfl, SqL.of hp1, by omega, O.few, fun z => by rcases z with z | z <;> omega, fun _ _ z => absurd O.sum z, fun _ _ _ => ⟨by rw [e]; exact O.laid, fun p2 H2 s2 hp2 hp22 => ?_⟩⟩
  exact q p2 H2 (s1.trans s2) (s1.free hp2) hp22
theorem ok_core (T : Tx K mg f_beads d_beads f_row_of d_row_of f_check_places d_check_places f_core d_core f_quotient d_quotient f_is_core d_is_core f_charges d_charges f_core_of d_core_of f_joined d_joined f_check_rods d_check_rods f_share d_share f_parted d_parted f_heights_on d_heights_on f_laid d_laid f_ldrawn d_ldrawn f_lwhole d_lwhole f_lrow d_lrow f_lrows d_lrows f_lrow_by d_lrow_by f_ltold d_ltold f_lcharges_by d_lcharges_by c_NoRods c_NoCore c_NoQuotient c_NoCharges) : FnOk P w K mg base CX0 5 f_core d_core ["row", "rods"] (fun vs H Q _ => ∃ (a : Addr) (r : List Int) (t : Int), vs = [.ref a, .int t] ∧ SqL K H a (r.map V.int) ∧ r.length ≤ 100 ∧ 1 ≤ t ∧ t ≤ 8 ∧ CoreOk r t ∧ ∀ (p : Addr) (H' : Hp), Same H H' → H p = none → H' p = some (.lst ((coreM r t).map V.int)) → Q (.ref p) H') :=
  L3.FnOk.to0 (ok_coreX T) fun vs H Q E ⟨a, r, t, e, hS, hl, h1, h8, O, q⟩ => ⟨a, r, t, e, hS, hl, fun z => by rcases z with z | z <;> omega, fun _ _ => ⟨O, q⟩⟩
theorem ok_is_core (T : Tx K mg f_beads d_beads f_row_of d_row_of f_check_places d_check_places f_core d_core f_quotient d_quotient f_is_core d_is_core f_charges d_charges f_core_of d_core_of f_joined d_joined f_check_rods d_check_rods f_share d_share f_parted d_parted f_heights_on d_heights_on f_laid d_laid f_ldrawn d_ldrawn f_lwhole d_lwhole f_lrow d_lrow f_lrows d_lrows f_lrow_by d_lrow_by f_ltold d_ltold f_lcharges_by d_lcharges_by c_NoRods c_NoCore c_NoQuotient c_NoCharges) : FnOk P w K mg base CX0 6 f_is_core d_is_core ["row", "rods"] (spIsCore K) := by
  have G_core := ok_core (P := P) (w := w) (base := base) T
  refine T.F_is_core.ok sc_is_core (fun vs H Q E h => ?_) (fun cdv A outer s H vs Q E hr h => ?_)
  · obtain ⟨a, r, t, rfl, _⟩ := h
    rfl
  obtain ⟨a, r, t, rfl, hS, hlen, h1, h8, O, q⟩ := h
  have hu := hr.units
  refine ⟨_, (pss_one (ps_ret (pe_cmpR (op_eqL hu) (pe_call G_core (hr.mono (by decide)) rfl T.m_core T.F_core.kp T.b_core .nil pass0 (pa_cons (pv 0) (pa_cons (pv 1) pa_nil))) (pv 0) (nomark _)))), ?_⟩
  refine ⟨_, rfl, _, rfl, a, r, t, rfl, hS, hlen, h1, h8, O, fun p H1 s1 hp hp1 => ?_⟩
  exact ⟨_, rfl, p, a, _, _, rfl, rfl, SqL.of hp1, s1.seq hS, q H1 s1⟩
theorem ok_joinedX (T : Tx K mg f_beads d_beads f_row_of d_row_of f_check_places d_check_places f_core d_core f_quotient d_quotient f_is_core d_is_core f_charges d_charges f_core_of d_core_of f_joined d_joined f_check_rods d_check_rods f_share d_share f_parted d_parted f_heights_on d_heights_on f_laid d_laid f_ldrawn d_ldrawn f_lwhole d_lwhole f_lrow d_lrow f_lrows d_lrows f_lrow_by d_lrow_by f_ltold d_ltold f_lcharges_by d_lcharges_by c_NoRods c_NoCore c_NoQuotient c_NoCharges) : FnOk P w K mg base (CX1 P w) 7 f_joined d_joined ["middle", "rows", "rods"] (spJoinedX K c_NoRods c_NoCore c_NoQuotient) := by
  have G_check_rods : FnOk P w K mg base (CX1 P w) 1 f_check_rods d_check_rods ["rods"] (spCheckRods c_NoRods) := ok_check_rodsX T
  have G_is_core : FnOk P w K mg base CX0 6 f_is_core d_is_core ["row", "rods"] (spIsCore K) := ok_is_core T
  have G_charges : FnOk P w K mg base (CX1 P w) 3 f_charges d_charges ["row", "rods"] (spChargesX K c_NoRods) := ok_chargesX T
  have G_laid : FnOk P w K mg base CX0 3 f_laid d_laid ["numbers", "rows"] (spLaid K) := ok_laid T
  refine L3.Fun.okX T.F_joined sc_joined (fun vs H Q E h => ?_) (fun cdv A outer s H vs Q E hr h => ?_)
  · obtain ⟨a, b, r, qs, rows, t, rfl, _⟩ := h
    rfl
  obtain ⟨a, b, r, qs, rows, t, rfl, hS, hR, hlen, hE, q⟩ := h
  refine ⟨_, (pss_cons (ps_expr (pe_call G_check_rods (hr.mono (by decide)) rfl T.m_check_rods T.F_check_rods.kp T.b_check_rods .nil pass1 (pa_cons (pv 2) pa_nil)))
      (pss_cons (ps_if (pt_not (pt_val (pe_call G_is_core (hr.mono (by decide)) rfl T.m_is_core T.F_is_core.kp T.b_is_core .nil pass0 (pa_cons (pv 0) (pa_cons (pv 2) pa_nil))))) (pss_one (ps_raise rfl T.C_NoCore T.x_NoCore (pa_cons pe_str pa_nil))) pss_nil)
      (pss_cons (ps_if (pt_cmpR op_ne (pe_callB call_len_seq rfl T.z_len PySem.boot_len (pa_cons (pv 1) pa_nil)) (pv 2) (nomark _)) (pss_one (ps_raise rfl T.C_NoQuotient T.x_NoQuotient (pa_cons pe_str pa_nil))) pss_nil)
      (pss_one (ps_ret (pe_call G_laid (hr.mono (by decide)) rfl T.m_laid T.F_laid.kp T.b_laid .nil pass0 (pa_cons (pe_call G_charges (hr.mono (by decide)) rfl T.m_charges T.F_charges.kp T.b_charges .nil pass1 (pa_cons (pv 0) (pa_cons (pv 2) pa_nil))) (pa_cons (pv 1) pa_nil)))))))), ?_⟩
  refine ⟨_, rfl, t, rfl, hE, fun h1 h8 => ?_⟩
  obtain ⟨O, hE2, hE3, q⟩ := q h1 h8
  refine ⟨_, rfl, _, rfl, a, r, t, rfl, hS, hlen, h1, h8, O, fun H1 s1 => ?_⟩
  refine ⟨_, rfl, ite2 (fun c => ?_) (fun c => ?_)⟩
  · refine ⟨(by show 1 ≤ sizeLine; decide), hE2 (fun z => ?_) H1 s1⟩
    rw [decide_eq_true z] at c
    exact absurd c (by decide)
  have hc : coreM r t = r := by
    by_cases z : coreM r t = r
    · exact z
    · refine absurd ?_ c
      rw [decide_eq_false z]
      rfl
  have hR1 := hR.same s1
  refine ⟨_, rfl, b, _, rfl, .inl (SqL.of hR1.at'), _, rfl, rfl, _, rfl, ite2 (fun c2 => ?_) (fun c2 => ?_)⟩
  · refine ⟨(by show 1 ≤ sizeLine; decide), hE3 hc (fun z => ?_) H1 s1⟩
    rw [List.length_map, hR.len, z] at c2
    exact absurd c2 (by simp)
  have hn : (rows.length : Int) = t := by
    by_cases z : (rows.length : Int) = t
    · exact z
    · refine absurd ?_ c2
      rw [List.length_map, hR.len]
      rw [show decide (V.int (rows.length : Int) = V.int t) = false from decide_eq_false fun y => z (V.int.inj y)]
      rfl
  obtain ⟨hO, q⟩ := q hc hn
  refine ⟨_, rfl, _, rfl, a, r, t, rfl, s1.seq hS, hlen, fun z => by rcases z with z | z <;> omega, fun _ _ p H2 s2 hp hp2 => ?_⟩
  refine ⟨_, rfl, p, b, chargesM r t, qs, rows, rfl, SqL.of hp2, hR1.same s2, hO, fun p2 H3 s3 hp3 hp33 => ?_⟩
  exact q p2 H3 (s1.trans (s2.trans s3)) ((s1.trans s2).free hp3) hp33

theorem ok_quotientX (T : Tx K mg f_beads d_beads f_row_of d_row_of f_check_places d_check_places f_core d_core f_quotient d_quotient f_is_core d_is_core f_charges d_charges f_core_of d_core_of f_joined d_joined f_check_rods d_check_rods f_share d_share f_parted d_parted f_heights_on d_heights_on f_laid d_laid f_ldrawn d_ldrawn f_lwhole d_lwhole f_lrow d_lrow f_lrows d_lrows f_lrow_by d_lrow_by f_ltold d_ltold f_lcharges_by d_lcharges_by c_NoRods c_NoCore c_NoQuotient c_NoCharges) : FnOk P w K mg base (CX1 P w) 3 f_quotient d_quotient ["row", "rods"] (spQuotX K c_NoRods) := by
  have G_check_rods : FnOk P w K mg base (CX1 P w) 1 f_check_rods d_check_rods ["rods"] (spCheckRods c_NoRods) := ok_check_rodsX T
  have G_parted : FnOk P w K mg base CX0 2 f_parted d_parted ["row", "rods"] (spParted K) := ok_parted T
  have G_row_of : FnOk P w K mg base CX0 2 f_row_of d_row_of ["places"] (spRowOf K) := ok_row_of T
  refine L3.Fun.okX T.F_quotient sc_quotient (fun vs H Q E h => ?_) (fun cdv A outer s H vs Q E hr h => ?_)
  · obtain ⟨a, r, t, rfl, _⟩ := h
    rfl
  obtain ⟨a, r, t, rfl, hS, hrow, hlen, hE, q⟩ := h
  refine ⟨_, (pss_cons (ps_expr (pe_call G_check_rods (hr.mono (by decide)) rfl T.m_check_rods T.F_check_rods.kp T.b_check_rods .nil pass1 (pa_cons (pv 1) pa_nil)))
      (pss_one (ps_ret (pe_comp ["row", "rods"] ["heights"] [none] (defScope s_quotient) rfl (pi_list (pe_call G_parted (hr.mono (by decide)) rfl T.m_parted T.F_parted.kp T.b_parted .nil pass0 (pa_cons (pv 0) (pa_cons (pv 1) pa_nil)))) (fun _ _ _ _ => (pg_name (i := 0) (show List.Nodup (["heights"] : List Str) by decide +kernel) rfl (Or.inl rfl) (Or.inr rfl))) (fun _ _ _ _ => pif_nil) (fun _ _ _ _ => (pe_call G_row_of (hr.mono (by decide)) rfl T.m_row_of T.F_row_of.kp T.b_row_of .nil pass0 (pa_cons (pv 0) pa_nil))))))), ?_⟩
  refine ⟨_, rfl, t, rfl, hE, fun h1 h8 => ?_⟩
  have q := q h1 h8
  refine ⟨_, rfl, _, rfl, a, r, t, rfl, hS, h1, h8, hlen, fun pp ps H1 s1 hpp M => ?_⟩
  have hpl : (ps.map V.ref).length = t.toNat := by rw [List.length_map, M.rd.len, parted_len]
  refine ⟨pp, rfl, ⟨_, SqL.of M.rd.at'⟩, fun D hD => comp_list (K := K) (a := pp) (xs := ps.map V.ref)
    (fun i ys σ H2 => ∃ (u : Option V) (qs : List Addr), σ = [u] ∧ Same H1 H2 ∧ H2 D = some (.lst ys) ∧ ys = qs.map V.ref ∧ Made H1 H2 D qs i (fun k => rowOfM ((partedM r t).getD k [])))
    ⟨none, [], rfl, same_new hD _, upd_same, rfl, Made.zero⟩ (fun i ys σ H2 _ ⟨_, _, _, z, _⟩ => SqL.of (z _ _ M.rd.at')) ?_ ?_⟩
  · rintro i y ys σ H2 hi ⟨u, qs, rfl, s2, hD2, rfl, MQ⟩
    have hil : i < (ps.map V.ref).length := (List.getElem?_eq_some_iff.mp hi).1
    have hip : i < ps.length := by rw [List.length_map] at hil; exact hil
    rw [hpl] at hil
    obtain rfl : y = V.ref (ps.getD i 0) := by
      rw [List.getElem?_map, getA_of hip] at hi
      exact (Option.some.inj hi).symm
    obtain ⟨f1, f2, _⟩ := part_facts hrow h1 hil
    have row := s2 _ _ (M.rd.each i (by rw [parted_len]; exact hil))
    refine ⟨_, rfl, _, _, rfl, SqL.of row, f1, by omega, fun p H3 s3 hp hp3 => ?_⟩
    refine ⟨s3 _ _ hD2, ?_, _, qs ++ [p], rfl, same_upd (s2.trans s3) hD, upd_same, ?_, MQ.snoc s2 s3 hp hp3 ⟨_, hD2⟩⟩
    · rw [List.length_map, MQ.len]
      exact small1000 (by omega)
    · rw [List.map_append]
      rfl
  · rintro ys σ H2 ⟨u, qs, rfl, s2, hD2, rfl, MQ⟩
    rw [hpl] at MQ
    refine q D qs H2 (s1.trans s2) (s1.free hD) ⟨⟨by rw [quot_len]; exact MQ.len, hD2, fun k hk => ?_⟩, fun x hx => s1.free (MQ.fresh x hx), MQ.nd, MQ.np⟩
    rw [quot_len] at hk
    rw [quot_at hk]
    exact MQ.each k hk
theorem ok_quotient (T : Tx K mg f_beads d_beads f_row_of d_row_of f_check_places d_check_places f_core d_core f_quotient d_quotient f_is_core d_is_core f_charges d_charges f_core_of d_core_of f_joined d_joined f_check_rods d_check_rods f_share d_share f_parted d_parted f_heights_on d_heights_on f_laid d_laid f_ldrawn d_ldrawn f_lwhole d_lwhole f_lrow d_lrow f_lrows d_lrows f_lrow_by d_lrow_by f_ltold d_ltold f_lcharges_by d_lcharges_by c_NoRods c_NoCore c_NoQuotient c_NoCharges) : FnOk P w K mg base CX0 3 f_quotient d_quotient ["row", "rods"] (spQuot K) :=
  L3.FnOk.to0 (ok_quotientX T) fun vs H Q E ⟨a, r, t, e, hS, hrow, hl, h1, h8, q⟩ => ⟨a, r, t, e, hS, hrow, hl, fun z => by rcases z with z | z <;> omega, fun _ _ => q⟩

theorem ok_ltold (T : Tx K mg f_beads d_beads f_row_of d_row_of f_check_places d_check_places f_core d_core f_quotient d_quotient f_is_core d_is_core f_charges d_charges f_core_of d_core_of f_joined d_joined f_check_rods d_check_rods f_share d_share f_parted d_parted f_heights_on d_heights_on f_laid d_laid f_ldrawn d_ldrawn f_lwhole d_lwhole f_lrow d_lrow f_lrows d_lrows f_lrow_by d_lrow_by f_ltold d_ltold f_lcharges_by d_lcharges_by c_NoRods c_NoCore c_NoQuotient c_NoCharges) : FnOk P w K mg base CX0 1 f_ltold d_ltold ["places"] (spLTold128 K) := by
  refine T.F_ltold.ok sc_ltold (fun vs H Q E h => ?_) (fun cdv A outer s H vs Q E hr h => ?_)
  · obtain ⟨a, ps, rfl, _⟩ := h
    rfl
  obtain ⟨a, ps, rfl, hS, hlen, q⟩ := h
  refine ⟨_, (pss_cons (ps_set (i := 1) sc_ltold.nd rfl (Or.inl rfl) (pe_lst pa_nil))
      (pss_cons (ps_for PassesOwn.never rfl (pi_list (pe_rev (pe_callB call_sorted_128 rfl T.z_sorted boot_sorted (pa_cons (pv 0) pa_nil)) (pe_un un_neg pe_int))) (pg_name (i := 2) sc_ltold.nd rfl (Or.inr rfl)) (pss_cons (ps_set (i := 3) sc_ltold.nd rfl (Or.inl rfl) (pe_op op_sub (pv 2) (pe_callB call_len_seq rfl T.z_len PySem.boot_len (pa_cons (pe_comp ["places", "found", "place", "number"] ["other", "place"] [none, some 2] (defScope s_ltold) rfl (pi_list (pv 0)) (fun _ _ _ _ => (pg_name (i := 0) (show List.Nodup (["other", "place"] : List Str) by decide +kernel) rfl (Or.inl rfl) (Or.inr rfl))) (fun _ _ _ _ => (pif_one (pt_cmpR op_lt (pv 0) (pv 1) (nomark _)))) (fun _ _ _ _ => (pv 0))) pa_nil))))
      (pss_one (ps_if (pt_cmpR op_gt (pv 3) pe_int (nomark _)) (pss_one (ps_expr (pe_bm PySem.F.plainAttrs_list PySem.F.slot_list_append PySem.F.type_list_append mt_append (pv 1) (pa_cons (pv 3) pa_nil)))) pss_nil))))
      (pss_one (ps_ret (pv 1))))), ?_⟩
  refine ⟨(by show 0 ≤ sizeLine; decide), fun p hp => ?_⟩
  have s1 := same_new hp (.lst [])
  refine ⟨_, rfl, a, ps, rfl, s1.seq hS, hlen, fun l ms hl hperm hup => ?_⟩
  have ems : ms = sortI ps := sort_one (hperm.trans (sortI_perm _).symm) hup (sortI_up _)
  subst ems
  have s2 := same_new hl (.lst ((sortI ps).map V.int))
  refine ⟨_, rfl, l, _, rfl, rfl, SqL.of upd_same, fun rv hrv => ?_⟩
  rw [← List.map_reverse]
  have hml : (sortI ps).length = ps.length := (sortI_perm _).length_eq
  have s3 := s2.trans (same_new hrv (.lst ((sortI ps).reverse.map V.int)))
  have hprv : p ≠ rv := ne_of_none (s2 _ _ upd_same) hrv
  obtain ⟨F, hF⟩ : ∃ F, F = (sortI ps).reverse.map fun p => p - (((ps.filter fun o => decide (o < p)).length : Nat) : Int) := ⟨_, rfl⟩
  have hFl : F.length = ps.length := by rw [hF, List.length_map, List.length_reverse, hml]
  have hxl : ((sortI ps).reverse.map V.int).length = ps.length := by rw [List.length_map, List.length_reverse, hml]
  refine ⟨rv, rfl, ⟨_, SqL.of upd_same⟩, for_list (K := K) (a := rv) (xs := (sortI ps).reverse.map V.int)
    (fun i σ J => ∃ u v : Option V, σ = [some (.ref a), some (.ref p), u, v] ∧ Same H J ∧ J rv = some (.lst ((sortI ps).reverse.map V.int)) ∧ J p = some (.lst (((F.take i).filter fun n => decide (0 < n)).map V.int)))
    ⟨none, none, rfl, s1.trans s3, upd_same, s3 _ _ upd_same⟩ (fun i σ J _ ⟨_, _, _, _, z, _⟩ => SqL.of z) ?_ ?_⟩
  · rintro i y σ J hi ⟨u, v, rfl, sJ, hJr, hJp⟩
    have hil : i < ((sortI ps).reverse.map V.int).length := (List.getElem?_eq_some_iff.mp hi).1
    have hil2 : i < (sortI ps).reverse.length := by rw [List.length_map] at hil; exact hil
    rw [hxl] at hil
    obtain rfl : y = V.int ((sortI ps).reverse.getD i 0) := by
      rw [List.getElem?_map, getD_of hil2] at hi
      exact (Option.some.inj hi).symm
    have hFi : F[i]? = some ((sortI ps).reverse.getD i 0 - (((ps.filter fun o => decide (o < (sortI ps).reverse.getD i 0)).length : Nat) : Int)) := by
      rw [hF, List.getElem?_map, getD_of hil2]
      rfl
    have step := take_succ_filter (fun n => decide (0 < n)) F i _ hFi
    refine ⟨_, rfl, _, rfl, a, rfl, ⟨_, sJ.seq hS⟩, fun D hD => comp_lt (sJ.seq hS) (by omega) hD fun H3 s4 hD4 => ?_⟩
    refine ⟨D, _, rfl, .inl (SqL.of hD4), _, _, rfl, rfl, ?_⟩
    rw [List.length_map]
    have hJp3 := s4 _ _ hJp
    refine ⟨_, rfl, _, _, rfl, rfl, _, rfl, ite2 (fun c => ?_) (fun c => ?_)⟩
    · refine ⟨_, rfl, .inl ⟨rfl, _, SqL.of hJp3⟩, _, rfl, p, _, _, rfl, rfl, hJp3, ?_, ?_⟩
      · have z := List.length_filter_le (fun n : Int => decide (0 < n)) (F.take i)
        rw [List.length_map]
        rw [List.length_take] at z
        exact small1000 (by omega)
      · refine ⟨_, _, rfl, same_upd (sJ.trans s4) hp, ?_, ?_⟩
        · rw [upd_ne hprv.symm]
          exact s4 _ _ hJr
        · rw [upd_same, step, if_pos c, List.map_append]
          rfl
    · refine ⟨_, _, rfl, sJ.trans s4, s4 _ _ hJr, ?_⟩
      rw [step, if_neg c, List.append_nil]
      exact hJp3
  · rintro σ J ⟨u, v, rfl, sJ, hJr, hJp⟩
    rw [hxl, List.take_of_length_le (by omega)] at hJp
    refine ⟨_, rfl, q p J sJ hp ?_⟩
    rw [hJp, hF]
    rfl

theorem ok_core_of (T : Tx K mg f_beads d_beads f_row_of d_row_of f_check_places d_check_places f_core d_core f_quotient d_quotient f_is_core d_is_core f_charges d_charges f_core_of d_core_of f_joined d_joined f_check_rods d_check_rods f_share d_share f_parted d_parted f_heights_on d_heights_on f_laid d_laid f_ldrawn d_ldrawn f_lwhole d_lwhole f_lrow d_lrow f_lrows d_lrows f_lrow_by d_lrow_by f_ltold d_ltold f_lcharges_by d_lcharges_by c_NoRods c_NoCore c_NoQuotient c_NoCharges) : FnOk P w K mg base CX0 4 f_core_of d_core_of ["numbers"] (spCoreOf K c_NoRods c_NoCharges) :=
  L3.FnOk.to0 (ok_core_ofX T) fun _ _ _ _ h => h _
theorem ok_lcharges_by (T : Tx K mg f_beads d_beads f_row_of d_row_of f_check_places d_check_places f_core d_core f_quotient d_quotient f_is_core d_is_core f_charges d_charges f_core_of d_core_of f_joined d_joined f_check_rods d_check_rods f_share d_share f_parted d_parted f_heights_on d_heights_on f_laid d_laid f_ldrawn d_ldrawn f_lwhole d_lwhole f_lrow d_lrow f_lrows d_lrows f_lrow_by d_lrow_by f_ltold d_ltold f_lcharges_by d_lcharges_by c_NoRods c_NoCore c_NoQuotient c_NoCharges) : FnOk P w K mg base CX0 2 f_lcharges_by d_lcharges_by ["script", "rods"] (spChargesBy K) := by
  have G_ldrawn : FnOk P w K mg base CX0 1 f_ldrawn d_ldrawn ["script", "k", "many"] (spDrawn K) := ok_ldrawn T
  refine T.F_lcharges_by.ok sc_lcharges_by (fun vs H Q E h => ?_) (fun cdv A outer s H vs Q E hr h => ?_)
  · obtain ⟨a, ns, t, rfl, _⟩ := h
    rfl
  obtain ⟨a, ns, t, rfl, hS, h63, h1, h8, q⟩ := h
  have hs : sizeLine = 16777216 := sizeLine_eq
  refine ⟨_, (pss_cons (ps_setC (i := 2) ["script", "rods", "numbers", "lap", "one", "other", "kept", "size", "k"] ["k"] [none] (defScope s_lcharges_by) rfl sc_lcharges_by.nd rfl (Or.inl rfl) (pi_range1 rfl T.z_range (pa_cons (pv 1) pa_nil)) (fun _ _ _ _ => (pg_name (i := 0) (show List.Nodup (["k"] : List Str) by decide +kernel) rfl (Or.inl rfl) (Or.inr rfl))) (fun _ _ _ _ => pif_nil) (fun _ _ _ _ => pe_int))
      (pss_cons (ps_for PassesOwn.never rfl (pi_range1 rfl T.z_range (pa_cons (pe_call G_ldrawn (hr.mono (by decide)) rfl T.m_ldrawn T.F_ldrawn.kp T.b_ldrawn .nil pass0 (pa_cons (pv 0) (pa_cons pe_int (pa_cons pe_int pa_nil)))) pa_nil)) (pg_name (i := 3) sc_lcharges_by.nd rfl (Or.inl rfl)) (pss_cons (ps_set (i := 4) sc_lcharges_by.nd rfl (Or.inl rfl) (pe_call G_ldrawn (hr.mono (by decide)) rfl T.m_ldrawn T.F_ldrawn.kp T.b_ldrawn .nil pass0 (pa_cons (pv 0) (pa_cons (pe_op op_add pe_int (pe_op op_mul pe_int (pv 3))) (pa_cons (pv 1) pa_nil)))))
      (pss_cons (ps_set (i := 5) sc_lcharges_by.nd rfl (Or.inl rfl) (pe_call G_ldrawn (hr.mono (by decide)) rfl T.m_ldrawn T.F_ldrawn.kp T.b_ldrawn .nil pass0 (pa_cons (pv 0) (pa_cons (pe_op op_add pe_int (pe_op op_mul pe_int (pv 3))) (pa_cons (pv 1) pa_nil)))))
      (pss_cons (ps_set (i := 6) sc_lcharges_by.nd rfl (Or.inl rfl) (pe_callTy call_list_of rfl T.z_list boot_list (pa_cons (pv 2) pa_nil)))
      (pss_cons (ps_asg (pe_op op_add (pe_ix ix_list (pv 2) (pv 4) (fun _ _ => rfl)) pe_int) (pg_sub (pv 2) (pv 4) set_list))
      (pss_cons (ps_asg (pe_op op_sub (pe_ix ix_list (pv 2) (pv 5) (fun _ _ => rfl)) pe_int) (pg_sub (pv 2) (pv 5) set_list))
      (pss_cons (ps_set (i := 7) sc_lcharges_by.nd rfl (Or.inl rfl) pe_int)
      (pss_cons (ps_for PassesOwn.never rfl (pi_range1 rfl T.z_range (pa_cons (pv 1) pa_nil)) (pg_name (i := 8) sc_lcharges_by.nd rfl (Or.inl rfl)) (pss_cons (ps_set (i := 7) sc_lcharges_by.nd rfl (Or.inl rfl) (pe_op op_add (pv 7) (pe_op op_mul (pe_op op_mul (pv 1) (pe_ix ix_list (pv 2) (pv 8) (fun _ _ => rfl))) (pe_ix ix_list (pv 2) (pv 8) (fun _ _ => rfl)))))
      (pss_one (ps_set (i := 7) sc_lcharges_by.nd rfl (Or.inl rfl) (pe_op op_add (pv 7) (pe_op op_mul (pe_op op_mul pe_int (pv 8)) (pe_ix ix_list (pv 2) (pv 8) (fun _ _ => rfl))))))))
      (pss_one (ps_if (PW.pt (pw_or (pt_cmpR op_gt (pv 7) pe_int (nomark _)) (pw_or (pt_cmpR op_gt (pe_callB (call_max_list rfl) rfl T.z_max boot_max (pa_cons (pv 2) pa_nil)) pe_int (nomark _)) (pw_or1 (pt_cmpR op_lt (pe_callB (call_min_list rfl) rfl T.z_min boot_min (pa_cons (pv 2) pa_nil)) (pe_un un_neg pe_int) (nomark _)))))) (pss_one (ps_set (i := 2) sc_lcharges_by.nd rfl (Or.inl rfl) (pv 6))) pss_nil))))))))))
      (pss_one (ps_ret (pv 2))))), ?_⟩
  refine ⟨_, rfl, _, rfl, by omega, by omega, fun D hD => comp_range (lo := 0) (n := t.toNat)
    (fun i ys σ J => ∃ u : Option V, σ = [u] ∧ Same H J ∧ J D = some (.lst ys) ∧ ys = (List.replicate i (0 : Int)).map V.int)
    ⟨none, rfl, same_new hD _, upd_same, rfl⟩ ?_ ?_⟩
  · rintro i ys σ J hi ⟨u, rfl, sJ, hDJ, rfl⟩
    refine ⟨hDJ, by rw [List.length_map, List.length_replicate]; exact small1000 (by omega), _, rfl, same_upd sJ hD, upd_same, ?_⟩
    rw [List.replicate_succ', List.map_append]
    rfl
  rintro ys σ H1 ⟨u, rfl, s1, hD1, rfl⟩
  refine ⟨_, rfl, a, ns, 200, 6, rfl, s1.seq hS, h63, by decide, by decide, by decide, fun l l0 l1 => ?_⟩
  refine ⟨_, rfl, by omega, by omega, for_range (lo := 0) (n := l.toNat)
    (fun i σ J => ∃ (u1 u2 u3 u4 u5 u6 : Option V) (N : Addr) (m : List Int), σ = [some (.ref a), some (.int t), some (.ref N), u1, u2, u3, u4, u5, u6] ∧ Same H J ∧ H N = none ∧ J N = some (.lst (m.map V.int)) ∧ Chg m t)
    ⟨none, none, none, none, none, none, D, _, rfl, s1, hD, hD1, chg_zero h1⟩ ?_ ?_⟩
  · rintro i σ J hi ⟨u1, u2, u3, u4, u5, u6, N, m, rfl, sJ, hN, hNJ, C⟩
    have cl := C.len
    refine ⟨_, rfl, _, rfl, _, _, rfl, rfl, .inl ⟨by decide, by decide⟩, _, _, rfl, rfl, _, rfl, a, ns, _, t, rfl, sJ.seq hS, h63, by omega, by omega, by omega, fun o o0 o1 => ?_⟩
    refine ⟨_, rfl, _, rfl, _, _, rfl, rfl, .inl ⟨by decide, by decide⟩, _, _, rfl, rfl, _, rfl, a, ns, _, t, rfl, sJ.seq hS, h63, by omega, by omega, by omega, fun b b0 b1 => ?_⟩
    refine ⟨_, rfl, N, _, rfl, .inl (SqL.of hNJ), fun kp hkp => ?_⟩
    have sk := same_new hkp (.lst (m.map V.int))
    have hkN : kp ≠ N := (ne_of_none hNJ hkp).symm
    obtain ⟨J1, hJ1⟩ : ∃ J1, J1 = upd J kp (.lst (m.map V.int)) := ⟨_, rfl⟩
    have hk1 : J1 kp = some (.lst (m.map V.int)) := by rw [hJ1]; exact upd_same
    rw [← hJ1] at sk ⊢
    have hN1 := sk _ _ hNJ
    have sJ1 := sJ.trans sk
    clear hJ1
    have v1 := at_int (ns := m) (i := o) o0 (by omega)
    have ho : o.toNat < m.length := by omega
    have hb : b.toNat < m.length := by omega
    refine ⟨_, rfl, _, rfl, N, _, _, _, rfl, rfl, SqL.of hN1, v1, _, _, rfl, rfl, _, rfl, _, rfl, N, _, o, o.toNat, rfl, rfl, hN1, ixN_ok o0 (by rw [List.length_map]; omega), ?_⟩
    have em : (m.map V.int).set o.toNat (.int (m.getD o.toNat 0 + 1)) = (m.set o.toNat (m.getD o.toNat 0 + 1)).map V.int := by rw [List.map_set]
    rw [em]
    obtain ⟨m2, hm2⟩ : ∃ m2, m2 = m.set o.toNat (m.getD o.toNat 0 + 1) := ⟨_, rfl⟩
    rw [← hm2]
    have hm2l : m2.length = m.length := by rw [hm2, List.length_set]
    have hm2s : m2.sum = 1 := by rw [hm2, sum_set ho, C.sum]; omega
    have v3 := at_int (ns := m2) (i := b) b0 (by omega)
    refine ⟨_, rfl, _, rfl, N, _, _, _, rfl, rfl, SqL.of upd_same, v3, _, _, rfl, rfl, _, rfl, _, rfl, N, _, b, b.toNat, rfl, rfl, upd_same, ixN_ok b0 (by rw [List.length_map]; omega), ?_⟩
    have em3 : (m2.map V.int).set b.toNat (.int (m2.getD b.toNat 0 - 1)) = (m2.set b.toNat (m2.getD b.toNat 0 - 1)).map V.int := by rw [List.map_set]
    rw [em3]
    obtain ⟨m3, hm3⟩ : ∃ m3, m3 = m2.set b.toNat (m2.getD b.toNat 0 - 1) := ⟨_, rfl⟩
    rw [← hm3]
    have hm3l : m3.length = m.length := by rw [hm3, List.length_set]; exact hm2l
    have hm3s : m3.sum = 0 := by rw [hm3, sum_set (by omega), hm2s]; omega
    have hbig : ∀ k : Nat, -100 ≤ m3.getD k 0 ∧ m3.getD k 0 ≤ 100 := fun k => by
      have h0 : ∀ j : Nat, -6 ≤ m.getD j 0 ∧ m.getD j 0 ≤ 6 := fun j => by
        by_cases z : j < m.length
        · exact C.bd _ (by rw [← getD_elem z]; exact List.getElem_mem _)
        · rw [List.getD_eq_getElem?_getD, List.getElem?_eq_none (by omega)]
          exact ⟨by decide, by decide⟩
      have h2 : ∀ j : Nat, -7 ≤ m2.getD j 0 ∧ m2.getD j 0 ≤ 7 := fun j => by
        have a1 := h0 j
        have a2 := h0 o.toNat
        rw [hm2, set_get8 ho]
        split <;> omega
      have a1 := h2 k
      have a2 := h2 b.toNat
      rw [hm3, set_get8 (by omega)]
      split <;> omega
    have sJ3 : Same H (upd (upd J1 N (.lst (m2.map V.int))) N (.lst (m3.map V.int))) := same_upd (same_upd sJ1 hN) hN
    have hk3 : upd (upd J1 N (.lst (m2.map V.int))) N (.lst (m3.map V.int)) kp = some (.lst (m.map V.int)) := by rw [upd_ne hkN, upd_ne hkN]; exact hk1
    have hN3 : upd (upd J1 N (.lst (m2.map V.int))) N (.lst (m3.map V.int)) N = some (.lst (m3.map V.int)) := upd_same
    obtain ⟨J3, hJ3⟩ : ∃ J3, J3 = upd (upd J1 N (.lst (m2.map V.int))) N (.lst (m3.map V.int)) := ⟨_, rfl⟩
    rw [← hJ3] at sJ3 hk3 hN3 ⊢
    clear hJ3 em em3 hm3 hm2
    refine ⟨_, rfl, _, rfl, by omega, by omega, for_range (lo := 0) (n := t.toNat)
      (fun k σ J' => ∃ u8 : Option V, σ = [some (.ref a), some (.int t), some (.ref N), some (.int (0 + (i : Int))), some (.int o), some (.int b), some (.ref kp), some (.int (twM m3 t k)), u8] ∧ J' = J3)
      ⟨_, rfl, rfl⟩ ?_ ?_⟩
    · rintro k σ J' hk ⟨u8, rfl, rfl⟩
      have vk := at_int (ns := m3) (i := 0 + (k : Int)) (by omega) (by omega)
      rw [show ((0 : Int) + (k : Int)).toNat = k by omega] at vk
      have bk := hbig k
      have e : twM m3 t k + t * m3.getD k 0 * m3.getD k 0 + 2 * (0 + (k : Int)) * m3.getD k 0 = twM m3 t (k + 1) := by rw [Int.zero_add]; rfl
      refine ⟨_, rfl, _, rfl, _, rfl, _, rfl, N, _, _, _, rfl, rfl, SqL.of hN3, vk, _, _, rfl, rfl, .inl ⟨by omega, by omega⟩, _, rfl, _, rfl, N, _, _, _, rfl, rfl, SqL.of hN3, vk, _, _, rfl, rfl, .inr ⟨by omega, by omega⟩, _, _, rfl, rfl, ?_⟩
      refine ⟨_, rfl, _, rfl, _, _, rfl, rfl, .inl ⟨by decide, by decide⟩, _, rfl, _, rfl, N, _, _, _, rfl, rfl, SqL.of hN3, vk, _, _, rfl, rfl, .inr ⟨by omega, by omega⟩, _, _, rfl, rfl, ?_⟩
      exact ⟨some (.int (0 + (k : Int))), by rw [← e]; try rfl, rfl⟩
    rintro σ J' ⟨u8, rfl, rfl⟩
    have kept : ∃ (u1 u2 u3 u4 u5 u6 : Option V) (N' : Addr) (m' : List Int), ([some (.ref a), some (.int t), some (.ref kp), some (.int (0 + (i : Int))), some (.int o), some (.int b), some (.ref kp), some (.int (twM m3 t t.toNat)), u8] : L2.St) = [some (.ref a), some (.int t), some (.ref N'), u1, u2, u3, u4, u5, u6] ∧ Same H J' ∧ H N' = none ∧ J' N' = some (.lst (m'.map V.int)) ∧ Chg m' t :=
      ⟨_, _, _, _, _, _, kp, m, rfl, sJ3, sJ.free hkp, hk3, C⟩
    refine ⟨_, rfl, _, _, rfl, rfl, _, rfl, ite2 (fun c => iteT ⟨_, rfl, kept⟩) (fun c => ?_)⟩
    refine ⟨_, rfl, N, m3, rfl, SqL.of hN3, by omega, fun M hM hM6 => ⟨_, _, rfl, rfl, _, rfl, ite2 (fun c2 => iteT ⟨_, rfl, kept⟩) (fun c2 => ?_)⟩⟩
    refine ⟨_, rfl, N, m3, rfl, SqL.of hN3, by omega, fun M' hM' hM6' => ⟨_, rfl, _, _, rfl, rfl, _, rfl, ite2 (fun c3 => ⟨_, rfl, kept⟩) (fun c3 => ?_)⟩⟩
    have c1 : ¬ 120 < twM m3 t t.toNat := fun z => c (decide_eq_true z)
    have c2' : ¬ 6 < M := fun z => c2 (decide_eq_true z)
    have c3' : ¬ M' < -6 := fun z => c3 (decide_eq_true z)
    exact ⟨_, _, _, _, _, _, N, m3, rfl, sJ3, hN, hN3, by omega, fun x hx => by have a1 := hM6 x hx; have a2 := hM6' x hx; omega, hm3s, by omega⟩
  · rintro σ J ⟨u1, u2, u3, u4, u5, u6, N, m, rfl, sJ, hN, hNJ, C⟩
    exact ⟨_, rfl, q N m J sJ hN C hNJ⟩

def spJoined (K : PySem.W.Frag) (C C2 C3 : Addr) : Sp := fun vs H Q _ => ∀ E, spJoinedX K C C2 C3 vs H Q E
theorem ok_joined (T : Tx K mg f_beads d_beads f_row_of d_row_of f_check_places d_check_places f_core d_core f_quotient d_quotient f_is_core d_is_core f_charges d_charges f_core_of d_core_of f_joined d_joined f_check_rods d_check_rods f_share d_share f_parted d_parted f_heights_on d_heights_on f_laid d_laid f_ldrawn d_ldrawn f_lwhole d_lwhole f_lrow d_lrow f_lrows d_lrows f_lrow_by d_lrow_by f_ltold d_ltold f_lcharges_by d_lcharges_by c_NoRods c_NoCore c_NoQuotient c_NoCharges) : FnOk P w K mg base CX0 7 f_joined d_joined ["middle", "rows", "rods"] (spJoined K c_NoRods c_NoCore c_NoQuotient) :=
  L3.FnOk.to0 (ok_joinedX T) fun _ _ _ _ h => h _
theorem ok_law {f_law : Addr} {d_law : FuncData} (F : Fun K "law" "law" s_law f_law d_law) (T : Tx K mg f_beads d_beads f_row_of d_row_of f_check_places d_check_places f_core d_core f_quotient d_quotient f_is_core d_is_core f_charges d_charges f_core_of d_core_of f_joined d_joined f_check_rods d_check_rods f_share d_share f_parted d_parted f_heights_on d_heights_on f_laid d_laid f_ldrawn d_ldrawn f_lwhole d_lwhole f_lrow d_lrow f_lrows d_lrows f_lrow_by d_lrow_by f_ltold d_ltold f_lcharges_by d_lcharges_by c_NoRods c_NoCore c_NoQuotient c_NoCharges) : FnOk P w K mg base CX0 9 f_law d_law ["script"] (spLaw K) := by
  have G_ldrawn : FnOk P w K mg base CX0 1 f_ldrawn d_ldrawn ["script", "k", "many"] (spDrawn K) := ok_ldrawn T
  have G_lrow_by : FnOk P w K mg base CX0 2 f_lrow_by d_lrow_by ["script", "base", "most"] (spRowBy K) := ok_lrow_by T
  have G_lrow : FnOk P w K mg base CX0 2 f_lrow d_lrow ["found", "due"] (spLRow K) := ok_lrow T
  have G_lrows : FnOk P w K mg base CX0 3 f_lrows d_lrows ["found", "due"] (spLRows K) := ok_lrows T
  have G_ltold : FnOk P w K mg base CX0 1 f_ltold d_ltold ["places"] (spLTold128 K) := ok_ltold T
  have G_lcharges_by : FnOk P w K mg base CX0 2 f_lcharges_by d_lcharges_by ["script", "rods"] (spChargesBy K) := ok_lcharges_by T
  have G_core_of : FnOk P w K mg base CX0 4 f_core_of d_core_of ["numbers"] (spCoreOf K c_NoRods c_NoCharges) := ok_core_of T
  have G_core := ok_core (P := P) (w := w) (base := base) T
  have G_charges := ok_charges (P := P) (w := w) (base := base) T
  have G_quotient : FnOk P w K mg base CX0 3 f_quotient d_quotient ["row", "rods"] (spQuot K) := ok_quotient T
  have G_joined : FnOk P w K mg base CX0 7 f_joined d_joined ["middle", "rows", "rods"] (spJoined K c_NoRods c_NoCore c_NoQuotient) := ok_joined T
  refine F.ok sc_law (fun vs H Q E h => ?_) (fun cdv A outer s H vs Q E hr h => ?_)
  · obtain ⟨a, ns, rfl, _⟩ := h
    rfl
  obtain ⟨a, ns, rfl, hS, h63, q⟩ := h
  have hu := hr.units
  have hs : sizeLine = 16777216 := sizeLine_eq
  refine ⟨_, (pss_cons (ps_set (i := 1) sc_law.nd rfl (Or.inl rfl) (pe_op op_add pe_int (pe_call G_ldrawn (hr.mono (by decide)) rfl T.m_ldrawn T.F_ldrawn.kp T.b_ldrawn .nil pass0 (pa_cons (pv 0) (pa_cons pe_int (pa_cons pe_int pa_nil))))))
      (pss_cons (ps_set (i := 2) sc_law.nd rfl (Or.inl rfl) (pe_call G_lcharges_by (hr.mono (by decide)) rfl T.m_lcharges_by T.F_lcharges_by.kp T.b_lcharges_by .nil pass0 (pa_cons (pv 0) (pa_cons (pv 1) pa_nil))))
      (pss_cons (ps_setC (i := 3) ["script", "rods", "numbers", "rows", "k", "middle", "handed", "found", "places", "many", "h", "number"] ["k", "script"] [none, some 0] (defScope s_law) rfl sc_law.nd rfl (Or.inl rfl) (pi_range1 rfl T.z_range (pa_cons (pv 1) pa_nil)) (fun _ _ _ _ => (pg_name (i := 0) (show List.Nodup (["k", "script"] : List Str) by decide +kernel) rfl (Or.inl rfl) (Or.inr rfl))) (fun _ _ _ _ => pif_nil) (fun _ _ _ _ => (pe_call G_lrow_by (hr.mono (by decide)) rfl T.m_lrow_by T.F_lrow_by.kp T.b_lrow_by .nil pass0 (pa_cons (pv 1) (pa_cons (pe_op op_add pe_int (pe_op op_mul pe_int (pv 0))) (pa_cons pe_int pa_nil))))))
      (pss_cons (ps_for PassesOwn.never rfl (pi_range1 rfl T.z_range (pa_cons (pv 1) pa_nil)) (pg_name (i := 4) sc_law.nd rfl (Or.inl rfl)) (pss_one (ps_if (pt_cmpR op_gt (pe_call G_ldrawn (hr.mono (by decide)) rfl T.m_ldrawn T.F_ldrawn.kp T.b_ldrawn .nil pass0 (pa_cons (pv 0) (pa_cons (pe_op op_add pe_int (pv 4)) (pa_cons pe_int pa_nil)))) pe_int (nomark _)) (pss_one (ps_asg (pe_lst pa_nil) (pg_sub (pv 3) (pv 4) set_list))) pss_nil)))
      (pss_cons (ps_set (i := 5) sc_law.nd rfl (Or.inl rfl) (pe_call G_core_of (hr.mono (by decide)) rfl T.m_core_of T.F_core_of.kp T.b_core_of .nil pass0 (pa_cons (pe_callTy call_list_of rfl T.z_list boot_list (pa_cons (pv 2) pa_nil)) pa_nil)))
      (pss_cons (ps_set (i := 6) sc_law.nd rfl (Or.inl rfl) (pe_lst (pa_cons (pe_callTy call_list_of rfl T.z_list boot_list (pa_cons (pv 5) pa_nil)) (pa_cons (pe_comp ["script", "rods", "numbers", "rows", "k", "middle", "handed", "found", "places", "many", "h", "number"] ["one"] [none] (defScope s_law) rfl (pi_list (pv 3)) (fun _ _ _ _ => (pg_name (i := 0) (show List.Nodup (["one"] : List Str) by decide +kernel) rfl (Or.inl rfl) (Or.inr rfl))) (fun _ _ _ _ => pif_nil) (fun _ _ _ _ => (pe_callTy (call_list_ofK (K := K) rfl) rfl T.z_list boot_list (pa_cons (pv 0) pa_nil)))) pa_nil))))
      (pss_cons (ps_set (i := 7) sc_law.nd rfl (Or.inl rfl) (pe_call G_joined (hr.mono (by decide)) rfl T.m_joined T.F_joined.kp T.b_joined .nil pass0 (pa_cons (pe_ix ix_list (pv 6) pe_int (fun _ _ => rfl)) (pa_cons (pe_ix ix_list (pv 6) pe_int (fun _ _ => rfl)) (pa_cons (pv 1) pa_nil)))))
      (pss_cons (ps_if (pt_cmpR (op_neD hu) (pv 6) (pe_lst (pa_cons (pv 5) (pa_cons (pv 3) pa_nil))) (nomark _)) (pss_one (ps_ret pe_bl)) pss_nil)
      (pss_cons (ps_set (i := 8) sc_law.nd rfl (Or.inl rfl) (pe_lst pa_nil))
      (pss_cons (ps_for PassesOwn.never rfl (pi_range1 rfl T.z_range (pa_cons (pv 1) pa_nil)) (pg_name (i := 4) sc_law.nd rfl (Or.inl rfl)) (pss_cons (ps_set (i := 9) sc_law.nd rfl (Or.inl rfl) (pe_op op_add (pe_ix ix_list (pv 2) (pv 4) (fun _ _ => rfl)) pe_int))
      (pss_one (ps_for PassesOwn.never rfl (pi_range1 rfl T.z_range (pa_cons (pv 9) pa_nil)) (pg_name (i := 10) sc_law.nd rfl (Or.inl rfl)) (pss_cons (ps_set (i := 11) sc_law.nd rfl (Or.inl rfl) pe_int)
      (pss_cons (ps_mid (ps_if (pt_cmpR op_lt (pe_op op_sub (pe_op op_sub (pv 9) pe_int) (pv 10)) (pe_callB call_len_seq rfl T.z_len PySem.boot_len (pa_cons (pe_ix ix_list (pv 3) (pv 4) (fun _ _ => rfl)) pa_nil)) (nomark _)) (pss_one (ps_set (i := 11) sc_law.nd rfl (Or.inl rfl) (pe_ix ix_list (pe_ix ix_list (pv 3) (pv 4) (fun _ _ => rfl)) (pe_op op_sub (pe_op op_sub (pv 9) pe_int) (pv 10)) (fun _ _ => rfl)))) pss_nil))
      (pss_one (ps_expr (pe_bm PySem.F.plainAttrs_list PySem.F.slot_list_append PySem.F.type_list_append mt_append (pv 8) (pa_cons (pe_op op_add (pe_op op_mul (pe_op op_add (pv 11) (pv 10)) (pv 1)) (pv 4)) pa_nil))))))))))
      (pss_cons (ps_if (pt_not (pt_val (pe_call G_lrow (hr.mono (by decide)) rfl T.m_lrow T.F_lrow.kp T.b_lrow .nil pass0 (pa_cons (pv 7) (pa_cons (pe_call G_ltold (hr.mono (by decide)) rfl T.m_ltold T.F_ltold.kp T.b_ltold .nil pass0 (pa_cons (pv 8) pa_nil)) pa_nil))))) (pss_one (ps_ret pe_bl)) pss_nil)
      (pss_cons (ps_if (pt_cmpR op_gt (pe_callB (call_sum_ints rfl) rfl T.z_sum boot_sum (pa_cons (pv 7) pa_nil)) pe_int (nomark _)) (pss_one (ps_ret pe_bl)) pss_nil)
      (pss_cons (ps_if (PW.pt (pw_or (pt_cmpR (op_neL hu) (pe_call G_core (hr.mono (by decide)) rfl T.m_core T.F_core.kp T.b_core .nil pass0 (pa_cons (pv 7) (pa_cons (pv 1) pa_nil))) (pv 5) (nomark _)) (pw_or1 (pt_not (pt_val (pe_call G_lrows (hr.mono (by decide)) rfl T.m_lrows T.F_lrows.kp T.b_lrows .nil pass0 (pa_cons (pe_call G_quotient (hr.mono (by decide)) rfl T.m_quotient T.F_quotient.kp T.b_quotient .nil pass0 (pa_cons (pv 7) (pa_cons (pv 1) pa_nil))) (pa_cons (pv 3) pa_nil)))))))) (pss_one (ps_ret pe_bl)) pss_nil)
      (pss_cons (ps_if (pt_not (pt_val (pe_call G_lrow (hr.mono (by decide)) rfl T.m_lrow T.F_lrow.kp T.b_lrow .nil pass0 (pa_cons (pe_call G_charges (hr.mono (by decide)) rfl T.m_charges T.F_charges.kp T.b_charges .nil pass0 (pa_cons (pv 7) (pa_cons (pv 1) pa_nil))) (pa_cons (pv 2) pa_nil))))) (pss_one (ps_ret pe_bl)) pss_nil)
      (pss_cons (ps_expr (pe_bm PySem.F.plainAttrs_list PySem.F.slot_list_append PySem.F.type_list_append mt_append (pv 7) (pa_cons pe_int pa_nil)))
      (pss_one (ps_ret (pe_cmpR (op_eqD hu) (pv 6) (pe_lst (pa_cons (pv 5) (pa_cons (pv 3) pa_nil))) (nomark _))))))))))))))))))), ?_⟩
  refine ⟨_, rfl, a, ns, 100, 8, rfl, hS, h63, by decide, by decide, by decide, fun d d0 d1 => ⟨_, _, rfl, rfl, ?_⟩⟩
  obtain ⟨t, ht⟩ : ∃ t : Int, t = 1 + d := ⟨_, rfl⟩
  dsimp only
  rw [← ht]
  have h1 : 1 ≤ t := by omega
  have h8 : t ≤ 8 := by omega
  clear ht d0 d1
  refine ⟨_, rfl, _, rfl, a, ns, t, rfl, hS, h63, h1, h8, fun pn m H1 s1 hpn C hpn1 => ?_⟩
  have cl := C.len
  refine ⟨_, rfl, _, rfl, by omega, by omega, fun D hD => comp_range (lo := 0) (n := t.toNat)
    (fun i ys σ J => ∃ (u : Option V) (ps : List Addr) (R : List (List Int)), σ = [u, some (.ref a)] ∧ Same H1 J ∧ J D = some (.lst ys) ∧ ys = ps.map V.ref ∧ R.length = i ∧ Drw J D ps R)
    ⟨none, [], [], rfl, same_new hD _, upd_same, rfl, rfl, Drw.zero⟩ ?_ ?_⟩
  · rintro i ys σ J hi ⟨u, ps, R, rfl, sJ, hDJ, rfl, hRl, M⟩
    refine ⟨_, rfl, _, rfl, _, _, rfl, rfl, .inl ⟨by decide, by decide⟩, _, _, rfl, rfl, a, ns, _, 7, rfl, (s1.trans sJ).seq hS, h63, by omega, by omega, by decide, by decide, fun p r J2 s2 hp hrow hsum hlen hp2 => ?_⟩
    exact ⟨s2 _ _ hDJ, by rw [List.length_map, M.len]; exact small1000 (by omega), _, ps ++ [p], R ++ [r], rfl, same_upd (sJ.trans s2) hD, upd_same, by rw [List.map_append]; rfl, by rw [List.length_append, hRl]; rfl, M.snoc s2 ⟨_, hDJ⟩ hp hp2 hrow hsum⟩
  rintro ys σ H2 ⟨u, ps0, R0, rfl, s2, hD2, rfl, hR0, M0⟩
  refine ⟨_, rfl, _, rfl, by omega, by omega, for_range (lo := 0) (n := t.toNat)
    (fun i σ J => ∃ (u : Option V) (ps : List Addr) (R : List (List Int)), σ = [some (.ref a), some (.int t), some (.ref pn), some (.ref D), u, none, none, none, none, none, none, none] ∧ Same H1 J ∧ R.length = t.toNat ∧ Rws J D ps R)
    ⟨none, ps0, R0, rfl, s2, hR0, ⟨M0.len, hD2, M0.each⟩, M0.np, M0.row, M0.few⟩ ?_ ?_⟩
  · rintro i σ J hi ⟨u, ps, R, rfl, sJ, hRl, M⟩
    have hpl := M.rd.len
    refine ⟨_, rfl, _, rfl, _, _, rfl, rfl, a, ns, _, 3, rfl, (s1.trans sJ).seq hS, h63, by omega, by omega, by decide, fun x x0 x1 => ⟨_, _, rfl, rfl, _, rfl, ite2 (fun c => ?_) (fun c => ?_)⟩⟩
    · refine ⟨(by show 0 ≤ sizeLine; decide), fun p hp => ?_⟩
      refine ⟨_, rfl, _, rfl, D, _, _, i, rfl, rfl, same_new hp (.lst []) _ _ M.rd.at', ?_, ?_⟩
      · rw [ixN_ok (by omega) (by rw [List.length_map]; omega), show ((0 : Int) + (i : Int)).toNat = i by omega]
      · exact ⟨_, _, _, rfl, same_upd (sJ.trans (same_new hp (.lst []))) hD, by rw [List.length_set]; exact hRl, M.set hp (by omega)⟩
    · exact ⟨_, ps, R, rfl, sJ, hRl, M⟩
  rintro σ H3 ⟨uk, ps, R, rfl, s3, hRl, M⟩
  clear M0 hR0 hD2 s2 u
  have DD : Drawn8 m R t := ⟨cl, by omega, h1, h8, C.bd, C.sum, C.tw, M.row, M.few⟩
  have JJ := join8 DD
  obtain ⟨crow, csum, cch, cc, laid0, laid, frow, fch, fq, fc, fsum, flen, told, plen, rlen⟩ := JJ
  have hn3 := s3 _ _ hpn1
  have RD := M.rd
  obtain ⟨c, hc⟩ : ∃ c, c = coreOfM m := ⟨_, rfl⟩
  obtain ⟨f, hf⟩ : ∃ f, f = laidM m R := ⟨_, rfl⟩
  rw [← hc] at crow csum cch cc fc
  rw [← hf] at frow fch fq fc fsum flen told
  have clen : c.length ≤ 60 := by have := row_len crow; omega
  have cC : CoreOk c t := core_ok crow csum h1 h8
  refine ⟨_, rfl, pn, _, rfl, .inl (SqL.of hn3), fun l hl => ?_⟩
  have s4 := same_new hl (.lst (m.map V.int))
  refine fun EE => ⟨l, m, rfl, SqL.of upd_same, by omega, fun x hx => by have := C.bd x hx; omega, fun z => by rcases z with z | z <;> omega, fun _ _ z => absurd C.sum z, fun _ _ _ => ⟨laid0, fun pm H4 s5 hpm hpm4 => ?_⟩⟩
  rw [← hc] at hpm4
  have s34 := s4.trans s5
  have RD4 := RD.same s34
  have hn4 := s34 _ _ hn3
  have hpl := RD.len
  have hqsl : (ps.map V.ref).length = R.length := by rw [List.length_map, hpl]
  clear s4 s5 hl RD hn3 M
  refine ⟨_, rfl, pm, _, rfl, .inl (SqL.of hpm4), fun h0 hh0 => ?_⟩
  have s8 := same_new hh0 (.lst (c.map V.int))
  obtain ⟨B, hB⟩ : ∃ B, B = upd H4 h0 (.lst (c.map V.int)) := ⟨_, rfl⟩
  have hBh : B h0 = some (.lst (c.map V.int)) := by rw [hB]; exact upd_same
  rw [← hB] at s8 ⊢
  have RB := RD4.same s8
  refine ⟨_, rfl, D, rfl, ⟨_, SqL.of RB.at'⟩, fun E2 hE2 => comp_list (K := K) (a := D) (xs := ps.map V.ref)
    (fun j ys σ J => ∃ (u : Option V) (os : List Addr), σ = [u] ∧ Same B J ∧ J E2 = some (.lst ys) ∧ ys = os.map V.ref ∧ Made B J E2 os j (fun k => R.getD k []))
    ⟨none, [], rfl, same_new hE2 _, upd_same, rfl, Made.zero⟩ (fun j ys σ J _ ⟨_, _, _, z, _⟩ => SqL.of (z _ _ RB.at')) ?_ ?_⟩
  · rintro j y ys σ J hj ⟨u, os, rfl, sJ, hEJ, rfl, MO⟩
    have hjl : j < (ps.map V.ref).length := (List.getElem?_eq_some_iff.mp hj).1
    have hjL : j < R.length := by rw [hqsl] at hjl; exact hjl
    have hjp : j < ps.length := by rw [hpl]; exact hjL
    obtain rfl : y = V.ref (ps.getD j 0) := by
      rw [List.getElem?_map, getA_of hjp] at hj
      exact (Option.some.inj hj).symm
    have rowj := sJ _ _ (RB.each j hjL)
    refine ⟨_, rfl, _, _, rfl, .inl (SqL.of rowj), fun z hz => ?_⟩
    have sz := same_new hz (.lst ((R.getD j []).map V.int))
    exact ⟨sz _ _ hEJ, by rw [List.length_map, MO.len]; exact small1000 (by omega), _, os ++ [z], rfl, same_upd (sJ.trans sz) hE2, upd_same, by rw [List.map_append]; rfl, MO.snoc sJ sz hz upd_same ⟨_, hEJ⟩⟩
  rintro ys σ H9 ⟨u9, os, rfl, s9, hE9, rfl, MO⟩
  rw [hqsl] at MO
  have RO : LLr H9 E2 os R := ⟨MO.len, hE9, MO.each⟩
  refine ⟨(by show 2 ≤ sizeLine; decide), fun hd hhd => ?_⟩
  have s10 := same_new hhd (.lst [.ref h0, .ref E2])
  obtain ⟨B2, hB2⟩ : ∃ B2, B2 = upd H9 hd (.lst [.ref h0, .ref E2]) := ⟨_, rfl⟩
  have hB2h : B2 hd = some (.lst [.ref h0, .ref E2]) := by rw [hB2]; exact upd_same
  rw [← hB2] at s10 ⊢
  have sB : Same H4 B2 := s8.trans (s9.trans s10)
  have hh2 : B2 h0 = some (.lst (c.map V.int)) := s10 _ _ (s9 _ _ hBh)
  have RO2 := RO.same s10
  have hm10 := sB _ _ hpm4
  have hn10 := sB _ _ hn4
  have RD10 := RD4.same sB
  clear RB RO MO hE9 s9 s10 hB2 hBh hB s8 sB RD4 hn4 hpm4
  have dd : (PyData.list [.list (c.map PyData.int), .list (dLL R)]).canLay0 = true := by
    simp only [PyData.canLay0, PyData.canLayAll0, lay_ints, lay_ll]
    rfl
  have hdep : (PyData.list [.list (c.map PyData.int), .list (dLL R)]).depth ≤ 60 := by
    have := depth_ll R
    simp only [PyData.depth, PyData.depthAll, depth_ints]
    omega
  have rdh : ∀ {J : Hp}, Same B2 J → RdD K J (.ref hd) (.list [.list (c.map PyData.int), .list (dLL R)]) := fun {J} sJ => by
    rw [RdD]
    refine ⟨hd, _, rfl, SqL.of (sJ _ _ hB2h), ?_⟩
    simp only [RdDs]
    exact ⟨rd_list (SqL.of (sJ _ _ hh2)), rd_ll (RO2.same sJ), trivial⟩
  have rdg : ∀ {J : Hp} {g : Addr}, Same B2 J → J g = some (.lst [.ref pm, .ref D]) → RdD K J (.ref g) (.list [.list (c.map PyData.int), .list (dLL R)]) := fun {J g} sJ hg => by
    rw [RdD]
    refine ⟨g, _, rfl, SqL.of hg, ?_⟩
    simp only [RdDs]
    exact ⟨rd_list (SqL.of (sJ _ _ hm10)), rd_ll (RD10.same sJ), trivial⟩
  have jL' : LaidOk (chargesM c t) R := by rw [cch]; exact laid
  have hRt : (R.length : Int) = t := by omega
  refine ⟨_, rfl, hd, _, 0, _, rfl, rfl, SqL.of hB2h, rfl, _, rfl, hd, _, 1, _, rfl, rfl, SqL.of hB2h, rfl, _, rfl, fun EE => ⟨h0, E2, c, os, R, t, rfl, SqL.of hh2, RO2, by omega, fun z => by rcases z with z | z <;> omega, fun _ _ => ⟨cC, fun z => absurd cc z, fun _ z => absurd hRt z, fun _ _ => ⟨jL', fun pj J1 t1 hpj hpj1 => ?_⟩⟩⟩⟩
  rw [cch, ← hf] at hpj1
  refine ⟨_, rfl, _, rfl, _, rfl, (by show 2 ≤ sizeLine; decide), fun g1 hg1 => ?_⟩
  have tg := same_new hg1 (.lst [.ref pm, .ref D])
  have t2 := t1.trans tg
  have hpj2 := tg _ _ hpj1
  refine ⟨_, _, rdh t2, rdg t2 upd_same, dd, dd, by omega, _, rfl, iteC (by rw [SeqAt.eqv_refl _ dd]; rfl) ?_⟩
  obtain ⟨B3, hB3⟩ : ∃ B3, B3 = upd J1 g1 (.lst [.ref pm, .ref D]) := ⟨_, rfl⟩
  rw [← hB3] at t2 hpj2 ⊢
  clear tg hB3 hg1 t1 hpj1
  refine ⟨(by show 0 ≤ sizeLine; decide), fun pp hpp => ?_⟩
  have t3 := same_new hpp (.lst [])
  refine ⟨_, rfl, _, rfl, by omega, by omega, for_range (lo := 0) (n := t.toNat)
    (fun i σ J => ∃ (u4 u9 u10 u11 : Option V), σ = [some (.ref a), some (.int t), some (.ref pn), some (.ref D), u4, some (.ref pm), some (.ref hd), some (.ref pj), some (.ref pp), u9, u10, u11] ∧ Same B3 J ∧ J pp = some (.lst ((placesTo m R 14 i).map V.int)))
    ⟨_, none, none, none, rfl, t3, upd_same⟩ ?_ ?_⟩
  · rintro i σ J hi ⟨u4, u9, u10, u11, rfl, sJ, hJp⟩
    have hiR : i < R.length := by omega
    have him : i < m.length := by omega
    have bi := C.bd (m.getD i 0) (by rw [← getD_elem him]; exact List.getElem_mem _)
    have ri := rlen i hiR
    have vi := at_int (ns := m) (i := 0 + (i : Int)) (by omega) (by omega)
    have vr := at_ref (ps := ps) (i := 0 + (i : Int)) (by omega) (by omega)
    rw [show ((0 : Int) + (i : Int)).toNat = i by omega] at vi vr
    have hn' := t2.trans sJ _ _ hn10
    have hplen : (placesTo m R 14 i).length ≤ 127 := by
      have a1 := placesTo_len (ns := m) (rows := R) (l := 14) (fun k hk => by have := C.bd (m.getD k 0) (by rw [← getD_elem (show k < m.length by omega)]; exact List.getElem_mem _); omega) i (by omega)
      have a2 : (placesTo m R 14 i).length ≤ (placesTo m R 14 R.length).length := by
        have : ∀ d : Nat, (placesTo m R 14 i).length ≤ (placesTo m R 14 (i + d)).length := fun d => by
          induction d with
          | zero => exact Nat.le_refl _
          | succ d ih => rw [← Nat.add_assoc, placesTo_succ, List.length_append]; omega
        have := this (R.length - i)
        rw [show i + (R.length - i) = R.length by omega] at this
        exact this
      omega
    refine ⟨_, rfl, _, rfl, pn, _, _, _, rfl, rfl, SqL.of hn', vi, _, _, rfl, rfl, ?_⟩
    obtain ⟨b, hb⟩ : ∃ b : List Int, b = beadsM (R.getD i []) (14 + m.getD i 0).toNat := ⟨_, rfl⟩
    have hbl : b.length = (14 + m.getD i 0).toNat := by rw [hb, beads_len]
    refine ⟨_, rfl, _, rfl, by omega, by omega, for_range (lo := 0) (n := (m.getD i 0 + 14).toNat)
      (fun h σ J' => ∃ (u10 u11 : Option V), σ = [some (.ref a), some (.int t), some (.ref pn), some (.ref D), some (.int (0 + (i : Int))), some (.ref pm), some (.ref hd), some (.ref pj), some (.ref pp), some (.int (m.getD i 0 + 14)), u10, u11] ∧ Same B3 J' ∧
        J' pp = some (.lst ((placesTo m R 14 i ++ (b.take h).map fun x => x * (R.length : Int) + (i : Int)).map V.int)))
      ⟨_, _, rfl, sJ, by rw [List.take_zero, List.map_nil, List.append_nil]; exact hJp⟩ ?_ ?_⟩
    · rintro h σ J' hh ⟨u10, u11, rfl, sJ', hJp'⟩
      have RD' := RD10.same (t2.trans sJ')
      have rowi := RD'.each i hiR
      have hh' : h < (14 + m.getD i 0).toNat := by omega
      have eg := gaps_at (r := R.getD i []) (m := (14 + m.getD i 0).toNat) (k := h) (by omega) hh'
      refine ⟨fun σ' J'' => σ' = [some (.ref a), some (.int t), some (.ref pn), some (.ref D), some (.int (0 + (i : Int))), some (.ref pm), some (.ref hd), some (.ref pj), some (.ref pp), some (.int (m.getD i 0 + 14)), some (.int (0 + (h : Int))), some (.int ((gapsM (R.getD i []) (14 + m.getD i 0).toNat).getD h 0))] ∧ J'' = J', ?_, ?_⟩
      · have hml : ((R.getD i []).map V.int).length = (R.getD i []).length := List.length_map _
        refine ⟨_, rfl, _, _, rfl, rfl, _, rfl, _, _, rfl, rfl, _, rfl, _, rfl, D, _, _, _, rfl, rfl, SqL.of RD'.at', vr, _, _, rfl, .inl (SqL.of rowi), _, _, rfl, rfl, _, rfl, ite2 (fun c1 => ?_) (fun c1 => ?_)⟩
        · have c' := of_decide_eq_true c1
          rw [hml] at c'
          rw [if_pos (by omega)] at eg
          have hv := at_int (ns := R.getD i []) (i := m.getD i 0 + 14 - 1 - (0 + (h : Int))) (by omega) (by omega)
          rw [show (m.getD i 0 + 14 - 1 - (0 + (h : Int))).toNat = (14 + m.getD i 0).toNat - 1 - h by omega, ← eg] at hv
          exact ⟨_, rfl, _, rfl, D, _, _, _, rfl, rfl, SqL.of RD'.at', vr, _, rfl, _, _, rfl, rfl, _, rfl, _, _, rfl, rfl, _, _, _, _, rfl, rfl, SqL.of rowi, hv, rfl, rfl⟩
        · have c' := fun z => c1 (decide_eq_true z)
          rw [hml] at c'
          rw [if_neg (fun z => c' (by omega))] at eg
          exact ⟨by rw [eg]; rfl, rfl⟩
      · rintro σ' J'' ⟨rfl, rfl⟩
        have eb : (((gapsM (R.getD i []) (14 + m.getD i 0).toNat).getD h 0) + (0 + (h : Int))) * t + (0 + (i : Int)) = b.getD h 0 * (R.length : Int) + (i : Int) := by
          rw [hb, beads_at hh', hRt, Int.zero_add, Int.zero_add, Int.add_comm (h : Int)]
        refine ⟨_, rfl, .inl ⟨rfl, _, SqL.of hJp'⟩, _, rfl, _, rfl, _, _, rfl, rfl, _, rfl, _, _, rfl, rfl, .inr ⟨by omega, by omega⟩, _, rfl, _, _, rfl, rfl, pp, _, _, rfl, rfl, hJp', ?_, ?_⟩
        · rw [List.length_map, List.length_append, List.length_map, List.length_take]
          exact small1000 (by omega)
        · refine ⟨_, _, rfl, same_upd sJ' hpp, ?_⟩
          have e1 : (b.take (h + 1)).map (fun x => x * (R.length : Int) + (i : Int)) = (b.take h).map (fun x => x * (R.length : Int) + (i : Int)) ++ [b.getD h 0 * (R.length : Int) + (i : Int)] := by
            rw [take_snoc8 b (by omega), List.map_append]; rfl
          have e2 : ((placesTo m R 14 i ++ (b.take h).map fun x => x * (R.length : Int) + (i : Int)) ++ [b.getD h 0 * (R.length : Int) + (i : Int)]).map V.int = (placesTo m R 14 i ++ (b.take h).map fun x => x * (R.length : Int) + (i : Int)).map V.int ++ [V.int (b.getD h 0 * (R.length : Int) + (i : Int))] := by
            rw [List.map_append]; rfl
          rw [upd_same, e1, ← List.append_assoc, e2]
          exact congrArg (fun z => some (HO.lst ((placesTo m R 14 i ++ (b.take h).map fun x => x * (R.length : Int) + (i : Int)).map V.int ++ [V.int z]))) eb
    · rintro σ J' ⟨u10, u11, rfl, sJ', hJp'⟩
      refine ⟨_, _, _, _, rfl, sJ', ?_⟩
      rw [hJp', List.take_of_length_le (by omega), placesTo_succ, hb]
  rintro σ J4 ⟨u4, u9', u10, u11, rfl, t4, hJp⟩
  rw [show t.toNat = R.length by omega] at hJp
  have hpj4 := t4 _ _ hpj2
  have t24 := t2.trans t4
  refine ⟨_, rfl, _, rfl, pp, _, rfl, SqL.of hJp, plen, fun pt J5 t5 hpt hpt5 => ?_⟩
  rw [told] at hpt5
  have hpj5 := t5 _ _ hpj4
  refine ⟨pj, pt, f, f, rfl, hpj5, SqL.of hpt5, by omega, by omega, _, rfl, iteC (by rw [decide_eq_true rfl]; rfl) ?_⟩
  have fel := row_sum frow
  refine ⟨_, rfl, pj, f, rfl, SqL.of hpj5, by omega, fun x hx => by have := fel.2 x hx; omega, _, _, rfl, rfl, _, rfl, ite2 (fun c1 => q _) (fun c1 => ?_)⟩
  have c1' : ¬ 60 < f.sum := fun z => c1 (decide_eq_true z)
  have f60 : f.sum ≤ 60 := by omega
  have fC : CoreOk f t := core_ok frow f60 h1 h8
  have t25 := t24.trans t5
  refine ⟨_, rfl, _, rfl, pj, f, t, rfl, SqL.of hpj5, flen, h1, h8, fC, fun p5 J6 t6 hp5 hp56 => ?_⟩
  rw [fc] at hp56
  have t26 := t25.trans t6
  refine ⟨_, rfl, p5, pm, c, c, rfl, rfl, SqL.of hp56, SqL.of (t26 _ _ hm10), _, rfl, iteC (by rw [decide_eq_true rfl]; rfl) ?_⟩
  have hpj6 := t6 _ _ hpj5
  refine ⟨_, rfl, _, rfl, pj, f, t, rfl, SqL.of hpj6, frow, flen, h1, h8, fun p6 ps6 J7 t7 hp6 M6 => ?_⟩
  rw [fq] at M6
  have t27 := t26.trans t7
  refine ⟨_, rfl, p6, D, ps6, ps, R, rfl, M6.rd, RD10.same t27, by omega, fun l' hl' => ?_, _, rfl, iteF ?_⟩
  · obtain ⟨k, hk, e⟩ := List.getElem_of_mem hl'
    have := rlen k hk
    rw [List.getD_eq_getElem?_getD, List.getElem?_eq_getElem hk] at this
    have e2 : (some R[k]).getD [] = l' := e
    rw [e2] at this
    omega
  have hpj7 := t7 _ _ hpj6
  refine ⟨_, rfl, _, rfl, pj, f, t, rfl, SqL.of hpj7, flen, h1, h8, fun p7 J8 t8 hp7 hp78 => ?_⟩
  rw [fch] at hp78
  have t28 := t27.trans t8
  refine ⟨_, rfl, p7, pn, m, m, rfl, hp78, SqL.of (t28 _ _ hn10), by omega, by omega, _, rfl, iteC (by rw [decide_eq_true rfl]; rfl) ?_⟩
  have hpj8 := t8 _ _ hpj7
  refine ⟨_, rfl, .inl ⟨rfl, _, SqL.of hpj8⟩, pj, _, _, rfl, rfl, hpj8, by rw [List.length_map]; exact small1000 (by omega), ?_⟩
  have t29 : Same B2 (upd J8 pj (.lst (f.map V.int ++ [V.int 9]))) := same_upd t28 hpj
  refine ⟨_, rfl, _, rfl, _, rfl, (by show 2 ≤ sizeLine; decide), fun g2 hg2 => ?_⟩
  have t30 := t29.trans (same_new hg2 (.lst [.ref pm, .ref D]))
  refine ⟨_, _, rdh t30, rdg t30 upd_same, dd, dd, by omega, ?_⟩
  rw [SeqAt.eqv_refl _ dd]
  exact q _

end
theorem len1 {α : Type} {P : List α → Prop} : (∀ a0 : α, P [a0]) → ∀ us : List α, us.length = 1 → P us := by
  intro k us h
  match us, h with
  | [a0], _ => exact k a0
theorem len2 {α : Type} {P : List α → Prop} : (∀ a0 a1 : α, P [a0, a1]) → ∀ us : List α, us.length = 2 → P us := by
  intro k us h
  match us, h with
  | [a0, a1], _ => exact k a0 a1
theorem len3 {α : Type} {P : List α → Prop} : (∀ a0 a1 a2 : α, P [a0, a1, a2]) → ∀ us : List α, us.length = 3 → P us := by
  intro k us h
  match us, h with
  | [a0, a1, a2], _ => exact k a0 a1 a2
theorem all_mk {l : PySem.W.OpenLaw} {w : World} {K : PySem.W.Frag} {h : Heap} {mg : Str → Option Value} {fa f1 f2 f3 f4 f5 f6 f7 f8 f9 f10 f11 f12 f13 f14 f15 f16 f17 f18 f19 f20 f21 f22 : Addr} (X : K.In h) (G : h.Ns mainGlobals mg) (hfa : mg "law" = some (.ref fa))
    {od1 an1 od2 an2 od3 an3 od4 an4 od5 an5 od6 an6 od7 an7 od8 an8 od9 an9 od10 an10 od11 an11 od12 an12 od13 an13 od14 an14 od15 an15 od16 an16 od17 an17 od18 an18 od19 an19 od20 an20 od21 an21 od22 an22 : Option Addr} {sl1 sl2 sl3 sl4 sl5 sl6 sl7 sl8 sl9 sl10 sl11 sl12 sl13 sl14 sl15 sl16 sl17 sl18 sl19 sl20 sl21 sl22 : Array (Option Value)} {oc1 kV1 dc1 pm1 cd1 ct1 oc2 kV2 dc2 pm2 cd2 ct2 oc3 kV3 dc3 pm3 cd3 ct3 oc4 kV4 dc4 pm4 cd4 ct4 oc5 kV5 dc5 pm5 cd5 ct5 oc6 kV6 dc6 pm6 cd6 ct6 oc7 kV7 dc7 pm7 cd7 ct7 oc8 kV8 dc8 pm8 cd8 ct8 oc9 kV9 dc9 pm9 cd9 ct9 oc10 kV10 dc10 pm10 cd10 ct10 oc11 kV11 dc11 pm11 cd11 ct11 oc12 kV12 dc12 pm12 cd12 ct12 oc13 kV13 dc13 pm13 cd13 ct13 oc14 kV14 dc14 pm14 cd14 ct14 oc15 kV15 dc15 pm15 cd15 ct15 oc16 kV16 dc16 pm16 cd16 ct16 oc17 kV17 dc17 pm17 cd17 ct17 oc18 kV18 dc18 pm18 cd18 ct18 oc19 kV19 dc19 pm19 cd19 ct19 oc20 kV20 dc20 pm20 cd20 ct20 oc21 kV21 dc21 pm21 cd21 ct21 oc22 kV22 dc22 pm22 cd22 ct22 : Value}
    (a1 : PySem.W.nsIn K mainGlobals "beads" = some (some (.ref f1))) (l1 : K.lookup f1 = some ⟨oc1, od1, .func (PySem.W.fnOf "beads" "beads" (defArgs s_beads) (defBody s_beads) (defScope s_beads) .none kV1 dc1 pm1 an1 cd1 ct1), sl1⟩) (c1 : PySem.W.codeIn K cd1 "beads" = true) (k1 : PySem.W.keepIn K (.ref f1) = true)
    (a2 : PySem.W.nsIn K mainGlobals "row_of" = some (some (.ref f2))) (l2 : K.lookup f2 = some ⟨oc2, od2, .func (PySem.W.fnOf "row_of" "row_of" (defArgs s_row_of) (defBody s_row_of) (defScope s_row_of) .none kV2 dc2 pm2 an2 cd2 ct2), sl2⟩) (c2 : PySem.W.codeIn K cd2 "row_of" = true) (k2 : PySem.W.keepIn K (.ref f2) = true)
    (a3 : PySem.W.nsIn K mainGlobals "check_places" = some (some (.ref f3))) (l3 : K.lookup f3 = some ⟨oc3, od3, .func (PySem.W.fnOf "check_places" "check_places" (defArgs s_check_places) (defBody s_check_places) (defScope s_check_places) .none kV3 dc3 pm3 an3 cd3 ct3), sl3⟩) (c3 : PySem.W.codeIn K cd3 "check_places" = true) (k3 : PySem.W.keepIn K (.ref f3) = true)
    (a4 : PySem.W.nsIn K mainGlobals "core" = some (some (.ref f4))) (l4 : K.lookup f4 = some ⟨oc4, od4, .func (PySem.W.fnOf "core" "core" (defArgs s_core) (defBody s_core) (defScope s_core) .none kV4 dc4 pm4 an4 cd4 ct4), sl4⟩) (c4 : PySem.W.codeIn K cd4 "core" = true) (k4 : PySem.W.keepIn K (.ref f4) = true)
    (a5 : PySem.W.nsIn K mainGlobals "quotient" = some (some (.ref f5))) (l5 : K.lookup f5 = some ⟨oc5, od5, .func (PySem.W.fnOf "quotient" "quotient" (defArgs s_quotient) (defBody s_quotient) (defScope s_quotient) .none kV5 dc5 pm5 an5 cd5 ct5), sl5⟩) (c5 : PySem.W.codeIn K cd5 "quotient" = true) (k5 : PySem.W.keepIn K (.ref f5) = true)
    (a6 : PySem.W.nsIn K mainGlobals "is_core" = some (some (.ref f6))) (l6 : K.lookup f6 = some ⟨oc6, od6, .func (PySem.W.fnOf "is_core" "is_core" (defArgs s_is_core) (defBody s_is_core) (defScope s_is_core) .none kV6 dc6 pm6 an6 cd6 ct6), sl6⟩) (c6 : PySem.W.codeIn K cd6 "is_core" = true) (k6 : PySem.W.keepIn K (.ref f6) = true)
    (a7 : PySem.W.nsIn K mainGlobals "charges" = some (some (.ref f7))) (l7 : K.lookup f7 = some ⟨oc7, od7, .func (PySem.W.fnOf "charges" "charges" (defArgs s_charges) (defBody s_charges) (defScope s_charges) .none kV7 dc7 pm7 an7 cd7 ct7), sl7⟩) (c7 : PySem.W.codeIn K cd7 "charges" = true) (k7 : PySem.W.keepIn K (.ref f7) = true)
    (a8 : PySem.W.nsIn K mainGlobals "core_of" = some (some (.ref f8))) (l8 : K.lookup f8 = some ⟨oc8, od8, .func (PySem.W.fnOf "core_of" "core_of" (defArgs s_core_of) (defBody s_core_of) (defScope s_core_of) .none kV8 dc8 pm8 an8 cd8 ct8), sl8⟩) (c8 : PySem.W.codeIn K cd8 "core_of" = true) (k8 : PySem.W.keepIn K (.ref f8) = true)
    (a9 : PySem.W.nsIn K mainGlobals "joined" = some (some (.ref f9))) (l9 : K.lookup f9 = some ⟨oc9, od9, .func (PySem.W.fnOf "joined" "joined" (defArgs s_joined) (defBody s_joined) (defScope s_joined) .none kV9 dc9 pm9 an9 cd9 ct9), sl9⟩) (c9 : PySem.W.codeIn K cd9 "joined" = true) (k9 : PySem.W.keepIn K (.ref f9) = true)
    (a10 : PySem.W.nsIn K mainGlobals "check_rods" = some (some (.ref f10))) (l10 : K.lookup f10 = some ⟨oc10, od10, .func (PySem.W.fnOf "check_rods" "check_rods" (defArgs s_check_rods) (defBody s_check_rods) (defScope s_check_rods) .none kV10 dc10 pm10 an10 cd10 ct10), sl10⟩) (c10 : PySem.W.codeIn K cd10 "check_rods" = true) (k10 : PySem.W.keepIn K (.ref f10) = true)
    (a11 : PySem.W.nsIn K mainGlobals "share" = some (some (.ref f11))) (l11 : K.lookup f11 = some ⟨oc11, od11, .func (PySem.W.fnOf "share" "share" (defArgs s_share) (defBody s_share) (defScope s_share) .none kV11 dc11 pm11 an11 cd11 ct11), sl11⟩) (c11 : PySem.W.codeIn K cd11 "share" = true) (k11 : PySem.W.keepIn K (.ref f11) = true)
    (a12 : PySem.W.nsIn K mainGlobals "parted" = some (some (.ref f12))) (l12 : K.lookup f12 = some ⟨oc12, od12, .func (PySem.W.fnOf "parted" "parted" (defArgs s_parted) (defBody s_parted) (defScope s_parted) .none kV12 dc12 pm12 an12 cd12 ct12), sl12⟩) (c12 : PySem.W.codeIn K cd12 "parted" = true) (k12 : PySem.W.keepIn K (.ref f12) = true)
    (a13 : PySem.W.nsIn K mainGlobals "heights_on" = some (some (.ref f13))) (l13 : K.lookup f13 = some ⟨oc13, od13, .func (PySem.W.fnOf "heights_on" "heights_on" (defArgs s_heights_on) (defBody s_heights_on) (defScope s_heights_on) .none kV13 dc13 pm13 an13 cd13 ct13), sl13⟩) (c13 : PySem.W.codeIn K cd13 "heights_on" = true) (k13 : PySem.W.keepIn K (.ref f13) = true)
    (a14 : PySem.W.nsIn K mainGlobals "laid" = some (some (.ref f14))) (l14 : K.lookup f14 = some ⟨oc14, od14, .func (PySem.W.fnOf "laid" "laid" (defArgs s_laid) (defBody s_laid) (defScope s_laid) .none kV14 dc14 pm14 an14 cd14 ct14), sl14⟩) (c14 : PySem.W.codeIn K cd14 "laid" = true) (k14 : PySem.W.keepIn K (.ref f14) = true)
    (a15 : PySem.W.nsIn K mainGlobals "_law_drawn" = some (some (.ref f15))) (l15 : K.lookup f15 = some ⟨oc15, od15, .func (PySem.W.fnOf "_law_drawn" "_law_drawn" (defArgs s_ldrawn) (defBody s_ldrawn) (defScope s_ldrawn) .none kV15 dc15 pm15 an15 cd15 ct15), sl15⟩) (c15 : PySem.W.codeIn K cd15 "_law_drawn" = true) (k15 : PySem.W.keepIn K (.ref f15) = true)
    (a16 : PySem.W.nsIn K mainGlobals "_law_whole" = some (some (.ref f16))) (l16 : K.lookup f16 = some ⟨oc16, od16, .func (PySem.W.fnOf "_law_whole" "_law_whole" (defArgs s_lwhole) (defBody s_lwhole) (defScope s_lwhole) .none kV16 dc16 pm16 an16 cd16 ct16), sl16⟩) (c16 : PySem.W.codeIn K cd16 "_law_whole" = true) (k16 : PySem.W.keepIn K (.ref f16) = true)
    (a17 : PySem.W.nsIn K mainGlobals "_law_row" = some (some (.ref f17))) (l17 : K.lookup f17 = some ⟨oc17, od17, .func (PySem.W.fnOf "_law_row" "_law_row" (defArgs s_lrow) (defBody s_lrow) (defScope s_lrow) .none kV17 dc17 pm17 an17 cd17 ct17), sl17⟩) (c17 : PySem.W.codeIn K cd17 "_law_row" = true) (k17 : PySem.W.keepIn K (.ref f17) = true)
    (a18 : PySem.W.nsIn K mainGlobals "_law_rows" = some (some (.ref f18))) (l18 : K.lookup f18 = some ⟨oc18, od18, .func (PySem.W.fnOf "_law_rows" "_law_rows" (defArgs s_lrows) (defBody s_lrows) (defScope s_lrows) .none kV18 dc18 pm18 an18 cd18 ct18), sl18⟩) (c18 : PySem.W.codeIn K cd18 "_law_rows" = true) (k18 : PySem.W.keepIn K (.ref f18) = true)
    (a19 : PySem.W.nsIn K mainGlobals "_law_row_by" = some (some (.ref f19))) (l19 : K.lookup f19 = some ⟨oc19, od19, .func (PySem.W.fnOf "_law_row_by" "_law_row_by" (defArgs s_lrow_by) (defBody s_lrow_by) (defScope s_lrow_by) .none kV19 dc19 pm19 an19 cd19 ct19), sl19⟩) (c19 : PySem.W.codeIn K cd19 "_law_row_by" = true) (k19 : PySem.W.keepIn K (.ref f19) = true)
    (a20 : PySem.W.nsIn K mainGlobals "_law_told" = some (some (.ref f20))) (l20 : K.lookup f20 = some ⟨oc20, od20, .func (PySem.W.fnOf "_law_told" "_law_told" (defArgs s_ltold) (defBody s_ltold) (defScope s_ltold) .none kV20 dc20 pm20 an20 cd20 ct20), sl20⟩) (c20 : PySem.W.codeIn K cd20 "_law_told" = true) (k20 : PySem.W.keepIn K (.ref f20) = true)
    (a21 : PySem.W.nsIn K mainGlobals "_law_charges_by" = some (some (.ref f21))) (l21 : K.lookup f21 = some ⟨oc21, od21, .func (PySem.W.fnOf "_law_charges_by" "_law_charges_by" (defArgs s_lcharges_by) (defBody s_lcharges_by) (defScope s_lcharges_by) .none kV21 dc21 pm21 an21 cd21 ct21), sl21⟩) (c21 : PySem.W.codeIn K cd21 "_law_charges_by" = true) (k21 : PySem.W.keepIn K (.ref f21) = true)
    (a22 : PySem.W.nsIn K mainGlobals "law" = some (some (.ref f22))) (l22 : K.lookup f22 = some ⟨oc22, od22, .func (PySem.W.fnOf "law" "law" (defArgs s_law) (defBody s_law) (defScope s_law) .none kV22 dc22 pm22 an22 cd22 ct22), sl22⟩) (c22 : PySem.W.codeIn K cd22 "law" = true) (k22 : PySem.W.keepIn K (.ref f22) = true)
    (z_bool : PySem.W.nsIn K mainGlobals "bool" = some none) (z_enumerate : PySem.W.nsIn K mainGlobals "enumerate" = some none) (z_int : PySem.W.nsIn K mainGlobals "int" = some none) (z_isinstance : PySem.W.nsIn K mainGlobals "isinstance" = some none) (z_len : PySem.W.nsIn K mainGlobals "len" = some none) (z_list : PySem.W.nsIn K mainGlobals "list" = some none) (z_max : PySem.W.nsIn K mainGlobals "max" = some none) (z_min : PySem.W.nsIn K mainGlobals "min" = some none) (z_range : PySem.W.nsIn K mainGlobals "range" = some none) (z_reversed : PySem.W.nsIn K mainGlobals "reversed" = some none) (z_sorted : PySem.W.nsIn K mainGlobals "sorted" = some none) (z_sum : PySem.W.nsIn K mainGlobals "sum" = some none) (z_zip : PySem.W.nsIn K mainGlobals "zip" = some none)
    {c_NoRods c_NoCore c_NoQuotient c_NoCharges : Addr} (C_NoRods : PySem.W.nsIn K mainGlobals "NoRods" = some (some (.ref c_NoRods))) (C_NoCore : PySem.W.nsIn K mainGlobals "NoCore" = some (some (.ref c_NoCore))) (C_NoQuotient : PySem.W.nsIn K mainGlobals "NoQuotient" = some (some (.ref c_NoQuotient))) (C_NoCharges : PySem.W.nsIn K mainGlobals "NoCharges" = some (some (.ref c_NoCharges))) (x_NoCharges : PySem.W.excIn K c_NoCharges bmV "ValueError.__new__" = true) (ga_NoCharges : PySem.W.findIn K (.ref c_NoCharges) "__getattribute__" = some (some (.builtin "BaseException.__getattribute__"))) (gt_NoCharges : PySem.W.findIn K (.ref c_NoCharges) "__getattr__" = some none) (cl_NoCharges : PySem.W.findIn K (.ref c_NoCharges) "__class__" = some (some (.builtin "object.__class__"))) (sb_NoCharges : PySem.W.subIn K (.ref c_NoCharges) (.type "BaseException") = some true) (so_NoCharges : PySem.W.subIn K (.ref c_NoCharges) (.type "object") = some true) (hc_NoCharges : (PySem.W.clsIn K c_NoCharges).isSome = true) (v_NoCharges : PySem.W.kitOne K (.ref c_NoCharges) (.type "ValueError") = some true) (x_NoCore : PySem.W.excIn K c_NoCore bmV "ValueError.__new__" = true) (ga_NoCore : PySem.W.findIn K (.ref c_NoCore) "__getattribute__" = some (some (.builtin "BaseException.__getattribute__"))) (gt_NoCore : PySem.W.findIn K (.ref c_NoCore) "__getattr__" = some none) (cl_NoCore : PySem.W.findIn K (.ref c_NoCore) "__class__" = some (some (.builtin "object.__class__"))) (sb_NoCore : PySem.W.subIn K (.ref c_NoCore) (.type "BaseException") = some true) (so_NoCore : PySem.W.subIn K (.ref c_NoCore) (.type "object") = some true) (hc_NoCore : (PySem.W.clsIn K c_NoCore).isSome = true) (v_NoCore : PySem.W.kitOne K (.ref c_NoCore) (.type "ValueError") = some true) (x_NoQuotient : PySem.W.excIn K c_NoQuotient bmV "ValueError.__new__" = true) (ga_NoQuotient : PySem.W.findIn K (.ref c_NoQuotient) "__getattribute__" = some (some (.builtin "BaseException.__getattribute__"))) (gt_NoQuotient : PySem.W.findIn K (.ref c_NoQuotient) "__getattr__" = some none) (cl_NoQuotient : PySem.W.findIn K (.ref c_NoQuotient) "__class__" = some (some (.builtin "object.__class__"))) (sb_NoQuotient : PySem.W.subIn K (.ref c_NoQuotient) (.type "BaseException") = some true) (so_NoQuotient : PySem.W.subIn K (.ref c_NoQuotient) (.type "object") = some true) (hc_NoQuotient : (PySem.W.clsIn K c_NoQuotient).isSome = true) (v_NoQuotient : PySem.W.kitOne K (.ref c_NoQuotient) (.type "ValueError") = some true) (x_NoRods : PySem.W.excIn K c_NoRods bmV "ValueError.__new__" = true) (ga_NoRods : PySem.W.findIn K (.ref c_NoRods) "__getattribute__" = some (some (.builtin "BaseException.__getattribute__"))) (gt_NoRods : PySem.W.findIn K (.ref c_NoRods) "__getattr__" = some none) (cl_NoRods : PySem.W.findIn K (.ref c_NoRods) "__class__" = some (some (.builtin "object.__class__"))) (sb_NoRods : PySem.W.subIn K (.ref c_NoRods) (.type "BaseException") = some true) (so_NoRods : PySem.W.subIn K (.ref c_NoRods) (.type "object") = some true) (hc_NoRods : (PySem.W.clsIn K c_NoRods).isSome = true) (v_NoRods : PySem.W.kitOne K (.ref c_NoRods) (.type "ValueError") = some true) :
    ∃ fd : FuncData, (∀ (s : Shared) (v : Value), BindsTo s fd ⟨[v], []⟩ [("script", v)]) ∧ ∀ base : Heap, K.In base → base.Ns mainGlobals mg → FnOk l.prog w K mg base CX0 9 fa fd ["script"] (spLaw K) := by
  have e := hfa.symm.trans (PySem.W.mg_of X G a22)
  cases e
  have F1 := fun_mk (st := s_beads) l1 c1 k1
  have F2 := fun_mk (st := s_row_of) l2 c2 k2
  have F3 := fun_mk (st := s_check_places) l3 c3 k3
  have F4 := fun_mk (st := s_core) l4 c4 k4
  have F5 := fun_mk (st := s_quotient) l5 c5 k5
  have F6 := fun_mk (st := s_is_core) l6 c6 k6
  have F7 := fun_mk (st := s_charges) l7 c7 k7
  have F8 := fun_mk (st := s_core_of) l8 c8 k8
  have F9 := fun_mk (st := s_joined) l9 c9 k9
  have F10 := fun_mk (st := s_check_rods) l10 c10 k10
  have F11 := fun_mk (st := s_share) l11 c11 k11
  have F12 := fun_mk (st := s_parted) l12 c12 k12
  have F13 := fun_mk (st := s_heights_on) l13 c13 k13
  have F14 := fun_mk (st := s_laid) l14 c14 k14
  have F15 := fun_mk (st := s_ldrawn) l15 c15 k15
  have F16 := fun_mk (st := s_lwhole) l16 c16 k16
  have F17 := fun_mk (st := s_lrow) l17 c17 k17
  have F18 := fun_mk (st := s_lrows) l18 c18 k18
  have F19 := fun_mk (st := s_lrow_by) l19 c19 k19
  have F20 := fun_mk (st := s_ltold) l20 c20 k20
  have F21 := fun_mk (st := s_lcharges_by) l21 c21 k21
  have F22 := fun_mk (st := s_law) l22 c22 k22
  have b1 := F1.binds (ps := ["row", "many"]) fun _ _ _ _ _ _ => len2 fun _ _ => rfl
  have b2 := F2.binds (ps := ["places"]) fun _ _ _ _ _ _ => len1 fun _ => rfl
  have b3 := F3.binds (ps := ["places"]) fun _ _ _ _ _ _ => len1 fun _ => rfl
  have b4 := F4.binds (ps := ["row", "rods"]) fun _ _ _ _ _ _ => len2 fun _ _ => rfl
  have b5 := F5.binds (ps := ["row", "rods"]) fun _ _ _ _ _ _ => len2 fun _ _ => rfl
  have b6 := F6.binds (ps := ["row", "rods"]) fun _ _ _ _ _ _ => len2 fun _ _ => rfl
  have b7 := F7.binds (ps := ["row", "rods"]) fun _ _ _ _ _ _ => len2 fun _ _ => rfl
  have b8 := F8.binds (ps := ["numbers"]) fun _ _ _ _ _ _ => len1 fun _ => rfl
  have b9 := F9.binds (ps := ["middle", "rows", "rods"]) fun _ _ _ _ _ _ => len3 fun _ _ _ => rfl
  have b10 := F10.binds (ps := ["rods"]) fun _ _ _ _ _ _ => len1 fun _ => rfl
  have b11 := F11.binds (ps := ["row", "rods"]) fun _ _ _ _ _ _ => len2 fun _ _ => rfl
  have b12 := F12.binds (ps := ["row", "rods"]) fun _ _ _ _ _ _ => len2 fun _ _ => rfl
  have b13 := F13.binds (ps := ["places", "rods", "rod"]) fun _ _ _ _ _ _ => len3 fun _ _ _ => rfl
  have b14 := F14.binds (ps := ["numbers", "rows"]) fun _ _ _ _ _ _ => len2 fun _ _ => rfl
  have b15 := F15.binds (ps := ["script", "k", "many"]) fun _ _ _ _ _ _ => len3 fun _ _ _ => rfl
  have b16 := F16.binds (ps := ["found"]) fun _ _ _ _ _ _ => len1 fun _ => rfl
  have b17 := F17.binds (ps := ["found", "due"]) fun _ _ _ _ _ _ => len2 fun _ _ => rfl
  have b18 := F18.binds (ps := ["found", "due"]) fun _ _ _ _ _ _ => len2 fun _ _ => rfl
  have b19 := F19.binds (ps := ["script", "base", "most"]) fun _ _ _ _ _ _ => len3 fun _ _ _ => rfl
  have b20 := F20.binds (ps := ["places"]) fun _ _ _ _ _ _ => len1 fun _ => rfl
  have b21 := F21.binds (ps := ["script", "rods"]) fun _ _ _ _ _ _ => len2 fun _ _ => rfl
  exact ⟨PySem.W.fnOf "law" "law" (defArgs s_law) (defBody s_law) (defScope s_law) .none kV22 dc22 pm22 an22 cd22 ct22, fun s v => .of_eq rfl, fun base _ _ => ok_law F22 ⟨F1, PySem.W.mg_of X G a1, b1, F2, PySem.W.mg_of X G a2, b2, F3, PySem.W.mg_of X G a3, b3, F4, PySem.W.mg_of X G a4, b4, F5, PySem.W.mg_of X G a5, b5, F6, PySem.W.mg_of X G a6, b6, F7, PySem.W.mg_of X G a7, b7, F8, PySem.W.mg_of X G a8, b8, F9, PySem.W.mg_of X G a9, b9, F10, PySem.W.mg_of X G a10, b10, F11, PySem.W.mg_of X G a11, b11, F12, PySem.W.mg_of X G a12, b12, F13, PySem.W.mg_of X G a13, b13, F14, PySem.W.mg_of X G a14, b14, F15, PySem.W.mg_of X G a15, b15, F16, PySem.W.mg_of X G a16, b16, F17, PySem.W.mg_of X G a17, b17, F18, PySem.W.mg_of X G a18, b18, F19, PySem.W.mg_of X G a19, b19, F20, PySem.W.mg_of X G a20, b20, F21, PySem.W.mg_of X G a21, b21, PySem.W.mg_none_of X G z_bool, PySem.W.mg_none_of X G z_enumerate, PySem.W.mg_none_of X G z_int, PySem.W.mg_none_of X G z_isinstance, PySem.W.mg_none_of X G z_len, PySem.W.mg_none_of X G z_list, PySem.W.mg_none_of X G z_max, PySem.W.mg_none_of X G z_min, PySem.W.mg_none_of X G z_range, PySem.W.mg_none_of X G z_reversed, PySem.W.mg_none_of X G z_sorted, PySem.W.mg_none_of X G z_sum, PySem.W.mg_none_of X G z_zip, PySem.W.mg_of X G C_NoRods, PySem.W.mg_of X G C_NoCore, PySem.W.mg_of X G C_NoQuotient, PySem.W.mg_of X G C_NoCharges, x_NoCharges, ⟨ga_NoCharges, gt_NoCharges, cl_NoCharges, sb_NoCharges, so_NoCharges, hc_NoCharges⟩, v_NoCharges, x_NoCore, ⟨ga_NoCore, gt_NoCore, cl_NoCore, sb_NoCore, so_NoCore, hc_NoCore⟩, v_NoCore, x_NoQuotient, ⟨ga_NoQuotient, gt_NoQuotient, cl_NoQuotient, sb_NoQuotient, so_NoQuotient, hc_NoQuotient⟩, v_NoQuotient, x_NoRods, ⟨ga_NoRods, gt_NoRods, cl_NoRods, sb_NoRods, so_NoRods, hc_NoRods⟩, v_NoRods⟩⟩
theorem walk {l : PySem.W.OpenLaw} {q : Program} {loose : List Str} {XP : (Str → Option Value) → Heap → Prop} {YP : World → Heap → Prop} {d : DefRec} {K : Params → PySem.W.Frag} (hn : l.most = some 63) (hdf : d.params.defaults = [])
    (hY : ∀ (w : World) (h : Heap), YP w h → (K w.params).In h)
    (F : ∀ (w : World) (mg : Str → Option Value) (fa : Addr) (h : Heap), (K w.params).In h → h.Ns mainGlobals mg → mg d.name = some (.ref fa) →
      ∃ fd : FuncData, (∀ (s : Shared) (u : Value), BindsTo s fd ⟨[u], []⟩ [("script", u)]) ∧ ∀ base : Heap, (K w.params).In base → base.Ns mainGlobals mg → FnOk l.prog w (K w.params) mg base CX0 9 fa fd ["script"] (spLaw (K w.params))) :
    PySem.W.WalkO q loose XP YP l.row.toRowW d [] (fun f vs => PySem.call f vs) :=
  L2.walk_of (n := 63) (k := 9) (x := "script") (CX := fun _ => CX0) (sp := fun w => spLaw (K w.params)) hn (by decide) hdf ⟨rfl, by decide, by decide⟩ hY F (fun _ _ a ns hl _ hS => ⟨a, ns, rfl, hS, hl, fun _ => rfl⟩) fun _ _ _ _ _ z => z
end Rb
open PySem PySem.W PyProof.Rows
set_option maxRecDepth 100000 in
set_option maxHeartbeats 0 in
theorem PySem.Challenge.cw_rodbeads_k08_whole_back_and_there_holds : PySem.Challenge.rw_rodbeads_k08_whole_back_and_there.Holds := by
  w_on; o_law; k_head; (case hw => w_witness2)
  k_fill
  refine Rb.walk (l := PySem.Challenge.rw_rodbeads_k08_whole_back_and_there) rfl rfl (fun w h Y => PySem.W.kIn_of Y) ?F
  case F =>
    intro w mg fa h KX G hmg
    refine' Rb.all_mk KX G hmg ?a1 ?l1 ?c1 ?k1 ?a2 ?l2 ?c2 ?k2 ?a3 ?l3 ?c3 ?k3 ?a4 ?l4 ?c4 ?k4 ?a5 ?l5 ?c5 ?k5 ?a6 ?l6 ?c6 ?k6 ?a7 ?l7 ?c7 ?k7 ?a8 ?l8 ?c8 ?k8 ?a9 ?l9 ?c9 ?k9 ?a10 ?l10 ?c10 ?k10 ?a11 ?l11 ?c11 ?k11 ?a12 ?l12 ?c12 ?k12 ?a13 ?l13 ?c13 ?k13 ?a14 ?l14 ?c14 ?k14 ?a15 ?l15 ?c15 ?k15 ?a16 ?l16 ?c16 ?k16 ?a17 ?l17 ?c17 ?k17 ?a18 ?l18 ?c18 ?k18 ?a19 ?l19 ?c19 ?k19 ?a20 ?l20 ?c20 ?k20 ?a21 ?l21 ?c21 ?k21 ?a22 ?l22 ?c22 ?k22 ?z_bool ?z_enumerate ?z_int ?z_isinstance ?z_len ?z_list ?z_max ?z_min ?z_range ?z_reversed ?z_sorted ?z_sum ?z_zip ?C_NoRods ?C_NoCore ?C_NoQuotient ?C_NoCharges ?x_NoCharges ?ga_NoCharges ?gt_NoCharges ?cl_NoCharges ?sb_NoCharges ?so_NoCharges ?hc_NoCharges ?v_NoCharges ?x_NoCore ?ga_NoCore ?gt_NoCore ?cl_NoCore ?sb_NoCore ?so_NoCore ?hc_NoCore ?v_NoCore ?x_NoQuotient ?ga_NoQuotient ?gt_NoQuotient ?cl_NoQuotient ?sb_NoQuotient ?so_NoQuotient ?hc_NoQuotient ?v_NoQuotient ?x_NoRods ?ga_NoRods ?gt_NoRods ?cl_NoRods ?sb_NoRods ?so_NoRods ?hc_NoRods ?v_NoRods
    (case a1 => k_is); (case l1 => k_is); (case c1 => k_is); (case k1 => k_is)
    (case a2 => k_is); (case l2 => k_is); (case c2 => k_is); (case k2 => k_is)
    (case a3 => k_is); (case l3 => k_is); (case c3 => k_is); (case k3 => k_is)
    (case a4 => k_is); (case l4 => k_is); (case c4 => k_is); (case k4 => k_is)
    (case a5 => k_is); (case l5 => k_is); (case c5 => k_is); (case k5 => k_is)
    (case a6 => k_is); (case l6 => k_is); (case c6 => k_is); (case k6 => k_is)
    (case a7 => k_is); (case l7 => k_is); (case c7 => k_is); (case k7 => k_is)
    (case a8 => k_is); (case l8 => k_is); (case c8 => k_is); (case k8 => k_is)
    (case a9 => k_is); (case l9 => k_is); (case c9 => k_is); (case k9 => k_is)
    (case a10 => k_is); (case l10 => k_is); (case c10 => k_is); (case k10 => k_is)
    (case a11 => k_is); (case l11 => k_is); (case c11 => k_is); (case k11 => k_is)
    (case a12 => k_is); (case l12 => k_is); (case c12 => k_is); (case k12 => k_is)
    (case a13 => k_is); (case l13 => k_is); (case c13 => k_is); (case k13 => k_is)
    (case a14 => k_is); (case l14 => k_is); (case c14 => k_is); (case k14 => k_is)
    (case a15 => k_is); (case l15 => k_is); (case c15 => k_is); (case k15 => k_is)
    (case a16 => k_is); (case l16 => k_is); (case c16 => k_is); (case k16 => k_is)
    (case a17 => k_is); (case l17 => k_is); (case c17 => k_is); (case k17 => k_is)
    (case a18 => k_is); (case l18 => k_is); (case c18 => k_is); (case k18 => k_is)
    (case a19 => k_is); (case l19 => k_is); (case c19 => k_is); (case k19 => k_is)
    (case a20 => k_is); (case l20 => k_is); (case c20 => k_is); (case k20 => k_is)
    (case a21 => k_is); (case l21 => k_is); (case c21 => k_is); (case k21 => k_is)
    (case a22 => k_is); (case l22 => k_is); (case c22 => k_is); (case k22 => k_is)
    (case z_bool => k_is)
    (case z_enumerate => k_is)
    (case z_int => k_is)
    (case z_isinstance => k_is)
    (case z_len => k_is)
    (case z_list => k_is)
    (case z_max => k_is)
    (case z_min => k_is)
    (case z_range => k_is)
    (case z_reversed => k_is)
    (case z_sorted => k_is)
    (case z_sum => k_is)
    (case z_zip => k_is)
    (case C_NoRods => k_is)
    (case C_NoCore => k_is)
    (case C_NoQuotient => k_is)
    (case C_NoCharges => k_is)
    (case x_NoCharges => k_exc)
    (case ga_NoCharges => k_is)
    (case gt_NoCharges => k_is)
    (case cl_NoCharges => k_is)
    (case sb_NoCharges => k_is)
    (case so_NoCharges => k_is)
    (case hc_NoCharges => kernel_rfl)
    (case v_NoCharges => kernel_rfl)
    (case x_NoCore => k_exc)
    (case ga_NoCore => k_is)
    (case gt_NoCore => k_is)
    (case cl_NoCore => k_is)
    (case sb_NoCore => k_is)
    (case so_NoCore => k_is)
    (case hc_NoCore => kernel_rfl)
    (case v_NoCore => kernel_rfl)
    (case x_NoQuotient => k_exc)
    (case ga_NoQuotient => k_is)
    (case gt_NoQuotient => k_is)
    (case cl_NoQuotient => k_is)
    (case sb_NoQuotient => k_is)
    (case so_NoQuotient => k_is)
    (case hc_NoQuotient => kernel_rfl)
    (case v_NoQuotient => kernel_rfl)
    (case x_NoRods => k_exc)
    (case ga_NoRods => k_is)
    (case gt_NoRods => k_is)
    (case cl_NoRods => k_is)
    (case sb_NoRods => k_is)
    (case so_NoRods => k_is)
    (case hc_NoRods => kernel_rfl)
    (case v_NoRods => kernel_rfl)

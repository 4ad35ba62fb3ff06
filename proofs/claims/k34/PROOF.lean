import PyProof.Rows.All
import Wide.All
import OpenK.AllK
import Wide.FinOn
import Lean
import PyProof.EqAt
import PyProof.EqKinds
import PyProof.TupleCall
import PyProof.NeKinds
import KE.KDictSum
import PyProof.DictCompW
import KE.KDictOf
import PyProof.AttrMissHeap
import PyProof.Rows.FactsN_abs
import PyProof.DictIter
import KE.KRevSl
import PyProof.EnumFor
import PyProof.EnumMake
import PyProof.EnumStmt
import PyProof.Rows.FactsT3
import PyProof.SumWalk
import PyProof.StrLawsRepr
import PySem.Challenge.RW_cutmeet_k34_whole_told_steps_lead_there
set_option Elab.async false
set_option linter.all false
set_option maxRecDepth 100000
/-! THE HAND LAYER, for ints, bools, texts, own classes, LISTS and tuples (index, slices, in, append, pop ..), calls, loops. Paste it whole ahead of your own text; what your proof does not reach may be deleted. -/
namespace L2
open PySem PySem.Spec PyProof.Rows

/-- a key: an int or a str -/
abbrev Key := Sum Int Str
def keyIs : Key → Value → Bool
  | .inl k, v => Value.isInt k v
  | .inr x, v => Value.isStrOf x v
def keyH (w : World) : Key → Int
  | .inl k => hashInt k
  | .inr x => hashStr w x
theorem keyIs_shape : ∀ {k : Key} {v : Value}, keyIs k v = true → (∃ i t, k = Sum.inl i ∧ v = Value.int i t) ∨ (∃ x t, k = Sum.inr x ∧ v = Value.str x t)
  | .inl i, v, h => by
    obtain ⟨t, e⟩ := Value.isInt_shape (k := i) (v := v) h
    exact .inl ⟨i, t, rfl, e⟩
  | .inr x, v, h => by
    obtain ⟨t, e⟩ := Value.isStrOf_shape (x := x) (v := v) h
    exact .inr ⟨x, t, rfl, e⟩
theorem key_ll (a b : Int) : decide ((Sum.inl a : Key) = Sum.inl b) = (a == b) := by
  by_cases e : a = b
  · subst e; simp
  · have h : ¬ (Sum.inl a : Key) = Sum.inl b := fun q => e (Sum.inl.inj q)
    rw [decide_eq_false h]
    exact (beq_eq_false_iff_ne.mpr e).symm
theorem key_rr (a b : Str) : decide ((Sum.inr a : Key) = Sum.inr b) = decide (a = b) := by
  by_cases e : a = b
  · subst e; simp
  · have h : ¬ (Sum.inr a : Key) = Sum.inr b := fun q => e (Sum.inr.inj q)
    rw [decide_eq_false h, decide_eq_false e]
theorem key_lr (a : Int) (b : Str) : decide ((Sum.inl a : Key) = Sum.inr b) = false := decide_eq_false (fun q => nomatch q)
theorem key_rl (a : Str) (b : Int) : decide ((Sum.inr a : Key) = Sum.inl b) = false := decide_eq_false (fun q => nomatch q)

def mixKind (prog : Program) (w : World) : PySem.KeyKind prog w Key where
  is := keyIs
  hash := keyH w
  inj := fun v a b ha hb => by
    rcases keyIs_shape ha with ⟨i, t, rfl, rfl⟩ | ⟨x, t, rfl, rfl⟩
    · rcases keyIs_shape hb with ⟨j, u, rfl, e⟩ | ⟨y, u, rfl, e⟩
      · injection e with e1 _; rw [e1]
      · exact nomatch e
    · rcases keyIs_shape hb with ⟨j, u, rfl, e⟩ | ⟨y, u, rfl, e⟩
      · exact nomatch e
      · injection e with e1 _; rw [e1]
  byValue := fun k v h => by
    rcases keyIs_shape h with ⟨i, t, rfl, rfl⟩ | ⟨x, t, rfl, rfl⟩ <;> rfl
  pyHash := fun hv h => by
    rcases keyIs_shape hv with ⟨i, t, rfl, rfl⟩ | ⟨x, t, rfl, rfl⟩
    · exact wpAny_pyHash_int h
    · exact wpAny_pyHash_str h
  eqBool := fun hu hv h => by
    rcases keyIs_shape hu with ⟨i, t, rfl, rfl⟩ | ⟨x, t, rfl, rfl⟩
    · rcases keyIs_shape hv with ⟨j, u, rfl, rfl⟩ | ⟨y, u, rfl, rfl⟩
      · rw [key_ll] at h; exact wpAny_eqBool_int h
      · rw [key_lr] at h; exact SeqAt.EqAt.int_str i t y u _ _ _ _ h
    · rcases keyIs_shape hv with ⟨j, u, rfl, rfl⟩ | ⟨y, u, rfl, rfl⟩
      · rw [key_rl] at h; exact SeqAt.EqAt.str_int x t j u _ _ _ _ h
      · rw [key_rr] at h; exact wpAny_eqBool_str h
  «strs» := fun k x t v h => by
    rcases keyIs_shape h with ⟨i, u, rfl, e⟩ | ⟨y, u, rfl, e⟩
    · exact nomatch e
    · injection e with e1 _
      subst e1
      cases v <;> rfl

end L2

namespace L2
open PySem PySem.Spec PyProof.Rows

/-- a value, without the heap -/
inductive V where
  | non | bl (b : Bool) | int (i : Int) | str (x : Str) | byt (b : Array UInt8) | flt (b : UInt64) | ref (a : Addr) | ty (n : String)
  deriving DecidableEq

def RelV : V → Value → Prop
  | .non, u => u = Value.none
  | .bl b, u => u = Value.bool b
  | .int i, u => ∃ t, u = Value.int i t
  | .str x, u => ∃ t, u = Value.str x t
  | .byt b, u => ∃ t, u = Value.bytes b t
  | .flt b, u => ∃ t, u = Value.float b t
  | .ref a, u => u = Value.ref a
  | .ty n, u => u = Value.type n

abbrev Vals : List V → List Value → Prop := Paired RelV
theorem Vals.length {xs : List V} {us : List Value} (r : Vals xs us) : xs.length = us.length := Paired.length r
theorem Vals.get : ∀ {xs : List V} {us : List Value} {i : Nat} {x : V}, Vals xs us → xs[i]? = some x → ∃ u, us[i]? = some u ∧ RelV x u
  | _, _, _, _, .nil, e => by simp at e
  | _, _, 0, _, .cons r _, e => by simp at e; subst e; exact ⟨_, rfl, r⟩
  | _, _, i + 1, x, .cons _ t, e => by
    obtain ⟨u, h1, h2⟩ := Vals.get (i := i) (x := x) t (by simpa using e)
    exact ⟨u, by simpa using h1, h2⟩
theorem Vals.set {x : V} {u : Value} (r : RelV x u) : ∀ {xs : List V} {us : List Value} (i : Nat), Vals xs us → Vals (xs.set i x) (us.set i u)
  | _, _, _, .nil => .nil
  | _, _, 0, .cons _ t => .cons r t
  | _, _, i + 1, .cons q t => .cons q (Vals.set r i t)
theorem Vals.append : ∀ {xs ys : List V} {us ws : List Value}, Vals xs us → Vals ys ws → Vals (xs ++ ys) (us ++ ws)
  | _, _, _, _, .nil, s => s
  | _, _, _, _, .cons r t, s => .cons r (Vals.append t s)
theorem Vals.take : ∀ {xs : List V} {us : List Value} (n : Nat), Vals xs us → Vals (xs.take n) (us.take n)
  | _, _, 0, _ => .nil
  | _, _, _ + 1, .nil => .nil
  | _, _, n + 1, .cons r t => .cons r (Vals.take n t)
theorem Vals.drop : ∀ {xs : List V} {us : List Value} (n : Nat), Vals xs us → Vals (xs.drop n) (us.drop n)
  | _, _, 0, r => r
  | _, _, _ + 1, .nil => .nil
  | _, _, n + 1, .cons _ t => Vals.drop n t

def RelO : Option V → Option Value → Prop
  | some v, some u => RelV v u
  | none, none => True
  | _, _ => False
def KV {κ : Type} : List (κ × V) → List (κ × Value) → Prop := Paired fun (p : κ × V) (q : κ × Value) => p.1 = q.1 ∧ RelV p.2 q.2

/-- a key of a dict (00_mix): an int or a text -/
def kV : Key → V
  | .inl i => .int i
  | .inr x => .str x

/-- what stands at a tracked address -/
inductive HO where
  /-- a list -/
  | lst (xs : List V)
  /-- a tuple (never changes) -/
  | tup (xs : List V)
  /-- a dict whose keys are ints and texts; one whose keys are tuples of ints and texts (the empty one is both) -/
  | dK (kvs : List (Key × V)) | dT (kvs : List (List Key × V))
  /-- a set of ints: its members, its size -/
  | set (S : Int → Bool) (n : Nat)
  /-- an instance of the class at C, its dict at dx, its attributes -/
  | ins (C dx : Addr) (fs : List (Str × V))
  /-- the dict of the instance at x -/
  | own (x : Addr)
  /-- the dict of an exception -/
  | xd (fs : List (Str × V))
  /-- a bound method, f of x -/
  | met (f x : Addr)
  /-- a range object lo, lo + 1, .. below hi -/
  | rng (lo hi : Int)
  /-- a thing that is known to the object (the script; a dict while a loop walks it): read, never written while it is so -/
  | frz (o : Obj) (u : HO)
  /-- a code object's table -/
  | tbl (ps : Array Value)
  /-- any other thing, by what is true of its one object (a def of one's own: SetO a S n := HO.ext fun h => ..) -/
  | ext (φ : Heap → Prop)

abbrev Hp := Addr → Option HO
def upd (H : Hp) (a : Addr) (o : HO) : Hp := fun b => if b = a then some o else H b
theorem upd_same {H : Hp} {a : Addr} {o : HO} : upd H a o a = some o := by unfold upd; rw [if_pos rfl]
theorem upd_ne {H : Hp} {a b : Addr} {o : HO} (h : b ≠ a) : upd H a o b = H b := by unfold upd; rw [if_neg h]
/-- two objects of different content stand apart -/
theorem ne_of {H : Hp} {a b : Addr} {o u : HO} (h : H a = some o) (h' : H b = some u) (d : o ≠ u) : a ≠ b := by
  intro e; subst e; rw [h] at h'; exact d (Option.some.inj h')
theorem ne_of_none {H : Hp} {a b : Addr} {o : HO} (h : H a = some o) (h' : H b = none) : a ≠ b := by
  intro e; subst e; rw [h] at h'; cases h'

section
variable (P : Program) (w : World)
def ObjOk (H : Hp) (h : Heap) (a : Addr) : HO → Prop
  | .lst xs => xs.length ≤ sizeLine ∧ ∃ (its : List Value) (n : Nat), Vals xs its ∧ h.get? a = some { cls := .type "list", data := .seq its.toArray n }
  | .tup xs => xs.length ≤ sizeLine ∧ ∃ its : List Value, Vals xs its ∧ IsTup h a its.toArray
  | .dK kvs => kvs.length ≤ sizeLine ∧ (a == sysModules) = false ∧ ∃ vs, KV kvs vs ∧ h.DictOf (mixKind P w) a vs
  | .dT kvs => kvs.length ≤ sizeLine ∧ (a == sysModules) = false ∧ ∃ xs : List (List Key × Addr × Value),
      Paired (fun (p : List Key × V) (q : List Key × Addr × Value) => p.1 = q.1 ∧ H q.2.1 = some (.tup (p.1.map kV)) ∧ RelV p.2 q.2.2) kvs xs ∧
      ∃ o es ep, h.get? a = some o ∧ o.ExactDict ∧ o.data = .dict es ep ∧ es.toList = xs.map (entryOfKey (tupleKind (mixKind P w))) ∧ (xs.map (·.1)).Nodup
  | .set S n => h.SetOf (intKind P w) a S n
  | .ins C dx fs => H dx = some (.own a) ∧ fs.length ≤ 1000 ∧ dx ≠ a ∧ h.get? a = some (PySem.W.instObj C dx) ∧
      ∃ mA, h.Ns1 dx mA ∧ (∀ f, RelO (fs.lookup f) (mA f)) ∧ PySem.Within mA (fs.map (·.1))
  | .own _ => ∃ o, h.get? a = some o
  | .xd fs => ∃ mA, h.Ns1 a mA ∧ ∀ f, RelO (fs.lookup f) (mA f)
  | .rng lo hi => ∃ t u v, h.get? a = some { cls := .type "range", data := .fields #[.int lo t, .int hi u, .int 1 v] }
  | .frz o u => h.get? a = some o ∧ ObjOk H h a u
  | .tbl ps => h.get? a = some { cls := .none, data := .fields ps }
  | .met f x => h.get? a = some (PySem.W.methodObj (.ref f) (.ref x))
  | .ext φ => φ h ∧ (∃ o, h.get? a = some o) ∧ ∀ h1 h2 : Heap, φ h1 → (∀ o, h1.get? a = some o → h2.get? a = some o) → φ h2
/-- the abstract heap is held -/
def HOk (H : Hp) (h : Heap) : Prop := ∀ a o, H a = some o → ObjOk P w H h a o
end

section
variable {P : Program} {w : World} {H H' : Hp} {h h' : Heap} {a : Addr} {o : HO}
theorem ObjOk.lt (x : ObjOk P w H h a o) : a < h.objs.size := by
  cases o with
  | lst xs => obtain ⟨_, _, _, _, e⟩ := x; exact Heap.lt_size e
  | tup xs => obtain ⟨_, _, _, p⟩ := x; exact p.lt
  | dK kvs => obtain ⟨_, _, _, _, o, _, _, e, _⟩ := x; exact Heap.lt_size e
  | dT kvs => obtain ⟨_, _, _, _, o, _, _, e, _⟩ := x; exact Heap.lt_size e
  | set S n => obtain ⟨o, _, _, _, e, _⟩ := x; exact Heap.lt_size e
  | ins C dx fs => obtain ⟨_, _, _, e, _⟩ := x; exact Heap.lt_size e
  | own y => obtain ⟨_, e⟩ := x; exact Heap.lt_size e
  | xd fs => obtain ⟨_, ⟨_, _, _, e, _⟩, _⟩ := x; exact Heap.lt_size e
  | rng lo hi => obtain ⟨_, _, _, e⟩ := x; exact Heap.lt_size e
  | frz ob u => obtain ⟨e, _⟩ := x; exact Heap.lt_size e
  | tbl ps => exact Heap.lt_size (show h.get? a = some _ from x)
  | met f y => exact Heap.lt_size (show h.get? a = some _ from x)
  | ext φ => obtain ⟨_, ⟨_, e⟩, _⟩ := x; exact Heap.lt_size e
theorem Paired.mapP {α β : Type} {F G : α → β → Prop} : ∀ {l₁ : List α} {l₂ : List β}, Paired F l₁ l₂ → (∀ a b, F a b → G a b) → Paired G l₁ l₂
  | _, _, .nil, _ => .nil
  | _, _, .cons r t, f => .cons (f _ _ r) (Paired.mapP t f)
/-- what an object's description leans on: its own object, its own dict, the tuples -/
theorem ObjOk.stay (x : ObjOk P w H h a o) (k : ∀ b u, (b = a ∨ H b = some (.own a)) → h.get? b = some u → h'.get? b = some u)
    (ho : ∀ b, H b = some (.own a) → H' b = some (.own a)) (ht : ∀ b xs, H b = some (.tup xs) → H' b = some (.tup xs)) : ObjOk P w H' h' a o := by
  induction o with
  | lst xs => obtain ⟨z, its, n, r, e⟩ := x; exact ⟨z, its, n, r, k _ _ (.inl rfl) e⟩
  | tup xs => obtain ⟨z, its, r, ob, e, c⟩ := x; exact ⟨z, its, r, ob, k _ _ (.inl rfl) e, c⟩
  | dK kvs => obtain ⟨z, y, vs, r, ob, es, ep, e, c⟩ := x; exact ⟨z, y, vs, r, ob, es, ep, k _ _ (.inl rfl) e, c⟩
  | dT kvs =>
    obtain ⟨z, y, xs, r, ob, es, ep, e, c⟩ := x
    exact ⟨z, y, xs, Paired.mapP r fun p q z => ⟨z.1, ht _ _ z.2.1, z.2.2⟩, ob, es, ep, k _ _ (.inl rfl) e, c⟩
  | set S n => obtain ⟨ob, es, ep, t, e, c⟩ := x; exact ⟨ob, es, ep, t, k _ _ (.inl rfl) e, c⟩
  | ins C dx fs =>
    obtain ⟨d, z, ne, e, mA, ⟨od, es, ep, e2, c⟩, r⟩ := x
    exact ⟨ho _ d, z, ne, k _ _ (.inl rfl) e, mA, ⟨od, es, ep, k _ _ (.inr d) e2, c⟩, r⟩
  | own y => obtain ⟨ob, e⟩ := x; exact ⟨ob, k _ _ (.inl rfl) e⟩
  | xd fs => obtain ⟨mA, ⟨od, es, ep, e, c⟩, r⟩ := x; exact ⟨mA, ⟨od, es, ep, k _ _ (.inl rfl) e, c⟩, r⟩
  | rng lo hi => obtain ⟨t, u, v, e⟩ := x; exact ⟨t, u, v, k _ _ (.inl rfl) e⟩
  | frz ob u ih => obtain ⟨e, q⟩ := x; exact ⟨k _ _ (.inl rfl) e, ih q⟩
  | tbl ps =>
    have e : h.get? a = some { cls := .none, data := .fields ps } := x
    show h'.get? a = some { cls := .none, data := .fields ps }
    exact k a _ (.inl rfl) e
  | met f y =>
    have e : h.get? a = some (PySem.W.methodObj (.ref f) (.ref y)) := x
    show h'.get? a = some (PySem.W.methodObj (.ref f) (.ref y))
    exact k a _ (.inl rfl) e
  | ext φ => obtain ⟨p, ⟨o, e⟩, st⟩ := x; exact ⟨st _ _ p fun o q => k _ _ (.inl rfl) q, ⟨o, k _ _ (.inl rfl) e⟩, st⟩
theorem HOk.lt (x : HOk P w H h) (e : H a = some o) : a < h.objs.size := (x a o e).lt
theorem HOk.fresh (x : HOk P w H h) (e : h.objs.size ≤ a) : H a = none := by
  cases q : H a with
  | none => rfl
  | some u => exact absurd (Nat.lt_of_lt_of_le (x.lt q) e) (Nat.lt_irrefl _)
/-- every object of the heap is kept -/
theorem HOk.kept (x : HOk P w H h) (k : ∀ b u, h.get? b = some u → h'.get? b = some u) : HOk P w H h' := fun a o e =>
  (x a o e).stay (fun b u _ q => k b u q) (fun _ q => q) fun _ _ q => q
/-- a new object is laid and tracked -/
theorem HOk.laid (x : HOk P w H h) (k : ∀ b u, h.get? b = some u → h'.get? b = some u) (hp : h.objs.size ≤ a) (new : ObjOk P w (upd H a o) h' a o) : HOk P w (upd H a o) h' := fun b u e => by
  have hn := x.fresh hp
  by_cases hb : b = a
  · subst hb; rw [upd_same] at e; cases e; exact new
  · rw [upd_ne hb] at e
    exact (x b u e).stay (fun c v _ q => k c v q) (fun c q => by rw [upd_ne (ne_of_none q hn)]; exact q) fun c xs q => by rw [upd_ne (ne_of_none q hn)]; exact q
end

/-- what may be read as u: it is u, or a known u -/
def Rd (H : Hp) (a : Addr) (u : HO) : Prop := H a = some u ∨ ∃ o, H a = some (.frz o u)
theorem Rd.ok {P : Program} {w : World} {H : Hp} {h : Heap} {a : Addr} {u : HO} (r : Rd H a u) (x : HOk P w H h) : ObjOk P w H h a u := by
  rcases r with r | ⟨o, r⟩
  · exact x a u r
  · obtain ⟨_, q⟩ := x a _ r
    exact q
/-- what may be written -/
def Mut : Option HO → Prop
  | some (.lst _) => True
  | some (.dK _) => True
  | some (.dT _) => True
  | some (.set _ _) => True
  | some (.ins _ _ _) => True
  | some (.ext _) => True
  | _ => False
section
variable {P : Program} {w : World} {H : Hp} {h h' : Heap} {x e : Addr} {o' : HO}
/-- the object at e is changed: x itself, or the dict of the instance x -/
theorem HOk.write (ok : HOk P w H h) (mu : Mut (H x)) (he : e = x ∨ H e = some (.own x)) (k : ∀ b u, b ≠ e → h.get? b = some u → h'.get? b = some u) (heo : ∃ u, h'.get? e = some u)
    (new : ObjOk P w (upd H x o') h' x o') : HOk P w (upd H x o') h' := fun b u q => by
  have nown : ∀ c y, H c = some (.own y) → c ≠ x := fun c y r z => by subst z; rw [r] at mu; exact mu
  have ntup : ∀ c xs, H c = some (.tup xs) → c ≠ x := fun c xs r z => by subst z; rw [r] at mu; exact mu
  by_cases hb : b = x
  · subst hb; rw [upd_same] at q; cases q; exact new
  · rw [upd_ne hb] at q
    by_cases hbe : b = e
    · have q' : H b = some (.own x) := by
        rcases he with z | z
        · exact absurd (hbe.trans z) hb
        · rw [hbe]; exact z
      rw [q] at q'; cases q'
      obtain ⟨v, hv⟩ := heo
      exact ⟨v, by rw [hbe]; exact hv⟩
    · refine (ok b u q).stay (fun c v hc r => k c v ?_ r) (fun c r => by rw [upd_ne (nown c b r)]; exact r) fun c xs r => by rw [upd_ne (ntup c xs r)]; exact r
      rcases hc with rfl | hc
      · exact hbe
      · rintro rfl
        rcases he with z | z
        · exact nown c b hc z
        · rw [hc] at z; cases z; exact hb rfl
end

/-! ### kept unless tracked; of the frames at fs (the callers') the slots may change (an exception that passes writes there); of the records at ex (iterators) nothing is said -/
structure Un (fs ex : List Addr) (H H' : Hp) (h h' : Heap) : Prop where
  keep : ∀ b o, h.get? b = some o → H b = none → b ∉ fs → b ∉ ex → h'.get? b = some o
  slot : ∀ b o, h.get? b = some o → H b = none → b ∈ fs → b ∉ ex → ∃ sl, h'.get? b = some { o with slots := sl }
  free : ∀ b o, h.get? b = some o → H b = none → b ∉ ex → H' b = none
  there : ∀ b o, h.get? b = some o → b ∉ ex → ∃ o', h'.get? b = some o'
  tups : ∀ b xs, H b = some (.tup xs) → H' b = some (.tup xs)
  frzs : ∀ b o u, H b = some (.frz o u) → H' b = some (.frz o u)
  tbls : ∀ b ps, H b = some (.tbl ps) → ∃ more, H' b = some (.tbl (ps ++ more))
section
variable {fs fs' ex ex' : List Addr} {H H1 H2 : Hp} {h h1 h2 h' : Heap} {a x e : Addr} {o : HO}
theorem Un.any (u : Un fs ex H H1 h h1) {b : Addr} {ob : Obj} (q : h.get? b = some ob) (n : H b = none) (hx : b ∉ ex) : ∃ sl, h1.get? b = some { ob with slots := sl } := by
  by_cases hb : b ∈ fs
  · exact u.slot b ob q n hb hx
  · exact ⟨ob.slots, u.keep b ob q n hb hx⟩
theorem Un.kept (k : ∀ b u, h.get? b = some u → h'.get? b = some u) : Un fs ex H H h h' :=
  ⟨fun b ob q _ _ _ => k b ob q, fun b ob q _ _ _ => ⟨ob.slots, k b ob q⟩, fun _ _ _ n _ => n, fun b ob q _ => ⟨ob, k b ob q⟩, fun _ _ q => q, fun _ _ _ q => q, fun _ ps q => ⟨#[], by rw [q]; simp⟩⟩
theorem Un.refl : Un fs ex H H h h := Un.kept fun _ _ q => q
theorem Un.laid (k : ∀ b u, h.get? b = some u → h'.get? b = some u) (hp : h.objs.size ≤ a) (hn : H a = none) : Un fs ex H (upd H a o) h h' where
  keep := fun b u q _ _ _ => k b u q
  slot := fun b u q _ _ _ => ⟨u.slots, k b u q⟩
  free := fun b u q n _ => by rw [upd_ne (Nat.ne_of_lt (Nat.lt_of_lt_of_le (Heap.lt_size q) hp))]; exact n
  there := fun b u q _ => ⟨u, k b u q⟩
  tups := fun b xs q => by rw [upd_ne (ne_of_none q hn)]; exact q
  frzs := fun b u xs q => by rw [upd_ne (ne_of_none q hn)]; exact q
  tbls := fun b ps q => ⟨#[], by rw [upd_ne (ne_of_none q hn), q]; simp⟩
theorem Un.write (mu : Mut (H x)) (he : e = x ∨ H e = some (.own x)) (k : ∀ b u, b ≠ e → h.get? b = some u → h'.get? b = some u) (heo : ∃ u, h'.get? e = some u) : Un fs ex H (upd H x o) h h' := by
  have hx : ∀ b, H b = none → b ≠ x := fun b n z => by subst z; rw [n] at mu; exact mu
  have hb : ∀ b, H b = none → b ≠ e := fun b n z => by
    subst z
    rcases he with r | r
    · exact hx b n r
    · rw [n] at r; cases r
  have hm : ∀ b u, H b = some u → ¬ Mut (some u) → b ≠ x := fun b u q nm z => by subst z; rw [q] at mu; exact nm mu
  refine ⟨fun b u q n _ _ => k b u (hb b n) q, fun b u q n _ _ => ⟨u.slots, k b u (hb b n) q⟩, fun b u q n _ => by rw [upd_ne (hx b n)]; exact n, fun b u q _ => ?_,
    fun b xs q => by rw [upd_ne (hm b _ q fun z => z)]; exact q, fun b u xs q => by rw [upd_ne (hm b _ q fun z => z)]; exact q, fun b ps q => ⟨#[], by rw [upd_ne (hm b _ q fun z => z), q]; simp⟩⟩
  by_cases hbe : b = e
  · subst hbe; exact heo
  · exact ⟨u, k b u hbe q⟩
end

/-! ### the heap without what is tracked -/
def trk (h : Heap) (H : Hp) : List Addr := (List.range h.objs.size).filter fun a => (H a).isSome
def hidT (h : Heap) (H : Hp) : Heap := PySem.W.hideAll h (trk h H)
theorem hidT_size (h : Heap) (H : Hp) : (hidT h H).objs.size = h.objs.size := PySem.W.hideAll_size _ _
theorem hidT_get {h : Heap} {H : Hp} {b : Addr} {o : Obj} (e : h.get? b = some o) (n : H b = none) : (hidT h H).get? b = some o :=
  PySem.W.hideAll_get _ e fun hm => by
    have q : (H b).isSome = true := (List.mem_filter.mp hm).2
    rw [n] at q; simp at q
theorem of_hidT {h : Heap} {H : Hp} {b : Addr} {o : Obj} (e : (hidT h H).get? b = some o) : h.get? b = some o ∧ H b = none := by
  have e' : h.get? b = some o := PySem.W.of_hideAll (trk h H) e
  refine ⟨e', ?_⟩
  cases q : H b with
  | none => rfl
  | some x =>
    have hm : b ∈ trk h H := List.mem_filter.mpr ⟨List.mem_range.mpr (Heap.lt_size e'), by simp [q]⟩
    have z : (hidT h H).get? b = none := PySem.W.hideAll_none (trk h H) hm
    rw [z] at e; cases e

/-! ### OpenK's ledger, filled with every new object but one -/
def allNews (g h : Heap) (L : Addr) : List (Addr × Obj) := (List.range h.objs.size).filterMap fun a => if a = L ∨ (g.get? a).isSome = true then none else (h.get? a).map fun o => (a, o)
def rest (g h : Heap) (L d : Addr) : List (Addr × Obj) := (allNews g h L).filter fun p => decide (p.1 ≠ d)
end L2

namespace L2
open PySem PySem.Spec PyProof.Rows

/-- the module's facts, over the base: the heap at the law's entry without what is tracked there -/
structure Mod (K : PySem.W.Frag) (mg : Str → Option Value) (base : Heap) : Prop where
  kin : K.In base
  glob : base.Ns mainGlobals mg
  blt : ∃ mb, base.Ns builtinsNs mb ∧ ∀ x : Str, x ≠ "__name__" → mb x = bootBuiltins x
  nolimit : base.NoLimit

/-- the context: a def's body (or a comprehension's block) running. base: fixed through the whole law; s₀, H₀: the entry; outer: the frames whose slots others may change (a def's callers); stack: all frames that run;
   ex: iterators that were made ahead of the entry and are walked here (a comprehension's); fn: the names whose cells were made at the entry (a def: all; a comprehension's block: its own); calm: not within an except suite; pn: pins that every state bears; xe: what is wanted of an exception that leaves the code -/
structure Cx where
  prog : Program
  w : World
  K : PySem.W.Frag
  mg : Str → Option Value
  base : Heap
  A : Around
  N : List Str
  s₀ : Shared
  H₀ : Hp
  env : Env
  outer : List Env
  stack : List Env
  ex : List Addr
  fn : Str → Bool
  calm : Bool
  pn : List (Addr × Obj)
  xe : Value → Shared → Prop
/-- the callers' frames -/
def frs (l : List Env) : List Addr := l.filterMap (·.frame)
abbrev Cx.fs (X : Cx) : List Addr := frs X.outer

def Vis (sc : Scope) (x : Str) : Prop := sc.names.lookup x = some .local ∨ sc.names.lookup x = some .cell ∨ sc.names.lookup x = some .free
def Loc (sc : Scope) (x : Str) : Prop := sc.names.lookup x = some .local ∨ sc.names.lookup x = some .cell
def Look (env : Env) (h : Heap) (m : Str → Option Value) (x : Str) (u : Value) : Prop :=
  (env.kindOf x = some .local ∧ m x = some u) ∨ ((env.kindOf x = some .cell ∨ env.kindOf x = some .free) ∧ ∃ c, env.cells.lookup x = some c ∧ h.IsCell c (some u))

structure Cx.Ok (X : Cx) : Prop where
  mod : Mod X.K X.mg X.base
  kind : X.env.scope.kind = .function
  glob : X.env.globals = mainGlobals
  blt : X.env.builtins = builtinsNs
  above : X.s₀.heap.objs.size ≤ X.env.locals
  inj : ∀ x y c, X.env.cells.lookup x = some c → X.env.cells.lookup y = some c → x = y
  has : ∀ x, (X.env.kindOf x = some .cell ∨ X.env.kindOf x = some .free) → ∃ c, X.env.cells.lookup x = some c
  cab : ∀ x c, X.fn x = true → X.env.cells.lookup x = some c → X.s₀.heap.objs.size ≤ c
  hd : X.calm = true → X.A.handled = none
  frames : X.A.frames = some X.stack
  stk : X.stack = X.outer ∨ (X.stack = X.env :: X.outer ∧ X.env.frame = some X.env.locals)
  exf : ∀ b ∈ X.ex, b ≠ X.env.locals ∧ ∀ x c, X.env.cells.lookup x = some c → c ≠ b
  bs : ∀ b o, X.base.get? b = some o → X.s₀.heap.get? b = some o ∧ X.H₀ b = none
  bsz : X.base.objs.size ≤ X.s₀.heap.objs.size
  noex : ∀ b o, X.base.get? b = some o → b ∉ X.ex
  exfs : ∀ b ∈ X.ex, b ∉ X.fs
  funs : X.s₀.heap.FunFrames X.base X.outer
  frf : ∀ b ∈ X.fs, X.H₀ b = none

structure Inv (X : Cx) (pins : List (Addr × Obj)) (σ : List (Option V)) (H : Hp) (s : Shared) : Prop where
  ok : X.Ok
  os : s.os = X.s₀.os
  bare : AllBare s.gens
  base : Un X.fs X.ex X.H₀ H X.s₀.heap s.heap
  loc : ∃ m, s.heap.Ns X.env.locals m ∧ ∀ (i : Nat) (x : Str) (v : V), X.N[i]? = some x → σ[i]? = some (some v) → Vis X.env.scope x → ∃ u, RelV v u ∧ Look X.env s.heap m x u
  cell : ∀ x c, X.env.cells.lookup x = some c → ∃ v, s.heap.IsCell c v
  free : H X.env.locals = none
  freeC : ∀ x c, X.env.cells.lookup x = some c → H c = none
  pin : ∀ p ∈ X.pn ++ pins, s.heap.get? p.1 = some p.2 ∧ H p.1 = none ∧ p.1 ≠ X.env.locals ∧ p.1 ∉ X.fs ∧ ∀ v, p.2.data ≠ .cell v
  hok : HOk X.prog X.w H s.heap
  len : σ.length = X.N.length

section
variable {X : Cx} {pins : List (Addr × Obj)} {σ : List (Option V)} {H H' : Hp} {s : Shared} {h' : Heap}

theorem Cx.Ok.nofr (ok : X.Ok) {b : Addr} {o : Obj} (e : X.base.get? b = some o) : b ∉ X.fs := fun hb => by
  have := (ok.funs.mem hb).1
  rw [e] at this; cases this
theorem Inv.bs (I : Inv X pins σ H s) : ∀ b o, X.base.get? b = some o → s.heap.get? b = some o ∧ H b = none := fun b o e =>
  ⟨I.base.keep b o (I.ok.bs b o e).1 (I.ok.bs b o e).2 (I.ok.nofr e) (I.ok.noex b o e), I.base.free b o (I.ok.bs b o e).1 (I.ok.bs b o e).2 (I.ok.noex b o e)⟩
theorem Inv.bk (I : Inv X pins σ H s) : ∀ b o, X.base.get? b = some o → s.heap.get? b = some o := fun b o e => (I.bs b o e).1
theorem Inv.mod (I : Inv X pins σ H s) : Mod X.K X.mg X.base := I.ok.mod
theorem Inv.kIn (I : Inv X pins σ H s) : X.K.In s.heap := I.ok.mod.kin.keeps I.bk
theorem Inv.lt (I : Inv X pins σ H s) : X.env.locals < s.heap.objs.size := let ⟨_, hn, _⟩ := I.loc; hn.lt
theorem Inv.sz (I : Inv X pins σ H s) : X.s₀.heap.objs.size ≤ s.heap.objs.size := Nat.le_trans I.ok.above (Nat.le_of_lt I.lt)
theorem Inv.nofs (I : Inv X pins σ H s) {a : Addr} (h : s.heap.objs.size ≤ a) : a ∉ X.fs := fun hb => by
  obtain ⟨_, o, ho, _⟩ := I.ok.funs.mem hb
  exact absurd (Nat.lt_of_lt_of_le (Heap.lt_size ho) (Nat.le_trans I.sz h)) (Nat.lt_irrefl _)
theorem Inv.cne (I : Inv X pins σ H s) : ∀ x c, X.env.cells.lookup x = some c → c ≠ X.env.locals := fun x c e z => by
  obtain ⟨v, o, ho, hd⟩ := I.cell x c e
  obtain ⟨m, ⟨o', es, ep, ho', hd', _⟩, _⟩ := I.loc
  rw [z, ho'] at ho; cases ho; rw [hd'] at hd; cases hd
theorem Inv.funs (I : Inv X pins σ H s) : s.heap.FunFrames X.base X.outer := by
  have all : ∀ (l : List Env), (∀ b ∈ frs l, b ∈ X.fs) → X.s₀.heap.FunFrames X.base l → s.heap.FunFrames X.base l := by
    intro l
    induction l with
    | nil => intro _ _; trivial
    | cons env r ih =>
      intro hs hl
      obtain ⟨hk, ⟨L, o, hf, hn, ho, hd⟩, hr⟩ := hl
      have hL : L ∈ X.fs := hs L (by unfold frs; rw [List.filterMap_cons, hf]; exact List.mem_cons_self)
      obtain ⟨sl, e⟩ := I.base.slot L o ho (I.ok.frf L hL) hL fun z => I.ok.exfs L z hL
      exact ⟨hk, ⟨L, _, hf, hn, e, hd⟩, ih (fun b hb => hs b (by unfold frs; rw [List.filterMap_cons, hf]; exact List.mem_cons_of_mem _ hb)) hr⟩
  exact all X.outer (fun _ hb => hb) I.ok.funs

/-- the frames that run, for a call -/
theorem Inv.stack (I : Inv X pins σ H s) : s.heap.FunFrames X.base X.stack := by
  rcases I.ok.stk with e | ⟨e, hf⟩
  · rw [e]; exact I.funs
  · rw [e]
    obtain ⟨m, hn, _⟩ := I.loc
    refine .cons (by rw [I.ok.kind]; decide) hf hn ?_ I.funs
    exact Heap.get?_none_of_le (Nat.le_trans I.ok.bsz I.ok.above)
theorem Inv.stkSub (I : Inv X pins σ H s) : ∀ b ∈ frs X.stack, b ∈ X.env.locals :: X.fs := fun b hb => by
  rcases I.ok.stk with e | ⟨e, hf⟩
  · rw [e] at hb; exact List.mem_cons_of_mem _ hb
  · rw [e] at hb
    unfold frs at hb
    rw [List.filterMap_cons, hf] at hb
    exact hb
theorem Inv.stkFree (I : Inv X pins σ H s) : ∀ b ∈ frs X.stack, H b = none := fun b hb => by
  rcases List.mem_cons.mp (I.stkSub b hb) with e | hb
  · rw [e]; exact I.free
  · obtain ⟨_, o, ho, _⟩ := I.ok.funs.mem hb
    exact I.base.free b o ho (I.ok.frf b hb) fun z => I.ok.exfs b z hb

/-- THE STEP: the untracked objects but the frame and the records at ch are kept (the callers' frames up to slots), the frame's map is kept, the new abstract heap is held -/
theorem Inv.step {g' : Array GenState} {t' : Nat} {d' : Drawn} {ch : List Addr} (I : Inv X pins σ H s)
    (hch : ∀ b ∈ ch, (b ∈ X.ex ∨ X.s₀.heap.objs.size ≤ b) ∧ b ≠ X.env.locals ∧ (∀ x c, X.env.cells.lookup x = some c → c ≠ b) ∧ ∀ p ∈ X.pn ++ pins, p.1 ≠ b)
    (keep : ∀ b o, b ≠ X.env.locals → b ∉ X.fs → b ∉ ch → s.heap.get? b = some o → H b = none → h'.get? b = some o)
    (slot : ∀ b o, b ≠ X.env.locals → b ∈ X.fs → b ∉ ch → s.heap.get? b = some o → H b = none → ∃ sl, h'.get? b = some { o with slots := sl }) (free : ∀ b o, b ∉ ch → s.heap.get? b = some o → H b = none → H' b = none)
    (there : ∀ b o, b ∉ ch → s.heap.get? b = some o → ∃ o', h'.get? b = some o')
    (tups : ∀ b xs, H b = some (.tup xs) → H' b = some (.tup xs)) (frzs : ∀ b o u, H b = some (.frz o u) → H' b = some (.frz o u)) (tbls : ∀ b ps, H b = some (.tbl ps) → ∃ more, H' b = some (.tbl (ps ++ more)))
    (ns : ∀ m, s.heap.Ns X.env.locals m → h'.Ns X.env.locals m) (hok : HOk X.prog X.w H' h') (hg : AllBare g') :
    Inv X pins σ H' { s with heap := h', gens := g', drawn := d', toks := t' } := by
  have neL : ∀ b o, X.s₀.heap.get? b = some o → b ≠ X.env.locals := fun b o e => Nat.ne_of_lt (Nat.lt_of_lt_of_le (Heap.lt_size e) I.ok.above)
  have neC : ∀ b o, X.s₀.heap.get? b = some o → b ∉ X.ex → b ∉ ch := fun b o e hx hb => by
    rcases (hch b hb).1 with z | z
    · exact hx z
    · exact absurd (Nat.lt_of_lt_of_le (Heap.lt_size e) z) (Nat.lt_irrefl _)
  have cellK : ∀ x c, X.env.cells.lookup x = some c → ∀ v, s.heap.IsCell c v → h'.IsCell c v := fun x c e v ⟨o, ho, hd⟩ => by
    have nch : c ∉ ch := fun z => (hch c z).2.2.1 x c e rfl
    by_cases hc : c ∈ X.fs
    · obtain ⟨sl, q⟩ := slot c o (I.cne x c e) hc nch ho (I.freeC x c e)
      exact ⟨_, q, hd⟩
    · exact ⟨o, keep c o (I.cne x c e) hc nch ho (I.freeC x c e), hd⟩
  refine ⟨I.ok, I.os, hg, ⟨fun b o e n hb hx => ?_, fun b o e n hb hx => ?_, fun b o e n hx => ?_, fun b o e hx => ?_, fun b xs e => tups b xs (I.base.tups b xs e), fun b o xs e => frzs b o xs (I.base.frzs b o xs e), fun b ps e => ?_⟩, ?_, fun x c e => ?_, ?_, fun x c e => ?_, fun p hp => ?_, hok, I.len⟩
  · exact keep b o (neL b o e) hb (neC b o e hx) (I.base.keep b o e n hb hx) (I.base.free b o e n hx)
  · obtain ⟨sl, e1⟩ := I.base.slot b o e n hb hx
    obtain ⟨sl', e2⟩ := slot b _ (neL b o e) hb (neC b o e hx) e1 (I.base.free b o e n hx)
    exact ⟨sl', e2⟩
  · obtain ⟨o', e1⟩ := I.base.there b o e hx
    exact free b o' (neC b o e hx) e1 (I.base.free b o e n hx)
  · obtain ⟨o', e1⟩ := I.base.there b o e hx
    exact there b o' (neC b o e hx) e1
  · obtain ⟨m1, e1⟩ := I.base.tbls b ps e
    obtain ⟨m2, e2⟩ := tbls b _ e1
    exact ⟨m1 ++ m2, by rw [e2, Array.append_assoc]⟩
  · obtain ⟨m, hn, hl⟩ := I.loc
    refine ⟨m, ns m hn, fun i x v e1 e2 e3 => ?_⟩
    obtain ⟨u, r, l⟩ := hl i x v e1 e2 e3
    refine ⟨u, r, ?_⟩
    rcases l with l | ⟨k, c, e, z⟩
    · exact .inl l
    · exact .inr ⟨k, c, e, cellK x c e _ z⟩
  · obtain ⟨v, z⟩ := I.cell x c e
    exact ⟨v, cellK x c e v z⟩
  · obtain ⟨m, ⟨o, _, _, ho, _⟩, _⟩ := I.loc
    exact free _ o (fun z => (hch _ z).2.1 rfl) ho I.free
  · obtain ⟨v, o, ho, hd⟩ := I.cell x c e
    exact free c o (fun z => (hch c z).2.2.1 x c e rfl) ho (I.freeC x c e)
  · obtain ⟨e, n, ne, nf, d⟩ := I.pin p hp
    have nch : p.1 ∉ ch := fun z => (hch p.1 z).2.2.2 p hp rfl
    exact ⟨keep p.1 p.2 ne nf nch e n, free p.1 p.2 nch e n, ne, nf, d⟩
/-- .. where the frame's own object is kept too -/
theorem Inv.un {t' : Nat} (I : Inv X pins σ H s) (u : Un X.fs [] H H' s.heap h') (hok : HOk X.prog X.w H' h') : Inv X pins σ H' { s with heap := h', toks := t' } := by
  obtain ⟨m, ⟨o, es, ep, ho, r⟩, _⟩ := id I.loc
  obtain ⟨sl, hL⟩ := u.any ho I.free (by simp)
  exact I.step (g' := s.gens) (d' := s.drawn) (ch := []) (fun _ z => nomatch z) (fun b o _ hb _ e n => u.keep b o e n hb (by simp)) (fun b o _ hb _ e n => u.slot b o e n hb (by simp)) (fun b o _ e n => u.free b o e n (by simp)) (fun b o _ e => u.there b o e (by simp)) u.tups u.frzs u.tbls (fun m' hm => by
    obtain ⟨o', es', ep', ho', r'⟩ := hm
    rw [ho] at ho'; cases ho'
    exact ⟨_, es', ep', hL, r'⟩) hok I.bare
/-- behind a call (or a comprehension's block): the slots of this frame may have changed too, the records at ch may have turned -/
theorem Inv.call {g' : Array GenState} {t' : Nat} {d' : Drawn} {ch : List Addr} (I : Inv X pins σ H s) (u : Un (frs X.stack) ch H H' s.heap h') (hok : HOk X.prog X.w H' h') (hg : AllBare g')
    (hch : ∀ b ∈ ch, (b ∈ X.ex ∨ X.s₀.heap.objs.size ≤ b) ∧ b ≠ X.env.locals ∧ (∀ x c, X.env.cells.lookup x = some c → c ≠ b) ∧ ∀ p ∈ X.pn ++ pins, p.1 ≠ b) :
    Inv X pins σ H' { s with heap := h', gens := g', drawn := d', toks := t' } := by
  obtain ⟨m, ⟨o, es, ep, ho, r⟩, _⟩ := id I.loc
  obtain ⟨sl, hL⟩ := u.any ho I.free fun z => (hch _ z).2.1 rfl
  exact I.step (ch := ch) hch (fun b o hL hb hc e n => u.keep b o e n (fun z => (List.mem_cons.mp (I.stkSub b z)).elim hL hb) hc) (fun b o _ _ hc e n => u.any e n hc) (fun b o hc e n => u.free b o e n hc) (fun b o hc e => u.there b o e hc) u.tups u.frzs u.tbls (fun m' hm => by
    obtain ⟨o', es', ep', ho', r'⟩ := hm
    rw [ho] at ho'; cases ho'
    exact ⟨_, es', ep', hL, r'⟩) hok hg
/-- an untracked record of ours (an iterator) has turned -/
theorem Inv.turned {t' : Nat} {it : Addr} (I : Inv X pins σ H s) (k : ∀ b o, b ≠ it → s.heap.get? b = some o → h'.get? b = some o) (hn : H it = none) (hL : it ≠ X.env.locals)
    (h1 : it ∈ X.ex ∨ X.s₀.heap.objs.size ≤ it) (h2 : ∀ x c, X.env.cells.lookup x = some c → c ≠ it) (h3 : ∀ p ∈ X.pn ++ pins, p.1 ≠ it) : Inv X pins σ H { s with heap := h', toks := t' } := by
  have nit : ∀ b u, H b = some u → b ≠ it := fun b u e z => by rw [z, hn] at e; cases e
  refine I.step (g' := s.gens) (d' := s.drawn) (ch := [it]) (fun b hb => ?_) (fun b o _ _ hc e _ => k b o (fun z => hc (by simp [z])) e) (fun b o _ _ hc e _ => ⟨o.slots, k b o (fun z => hc (by simp [z])) e⟩) (fun _ _ _ _ n => n)
    (fun b o hc e => ⟨o, k b o (fun z => hc (by simp [z])) e⟩) (fun _ _ e => e) (fun _ _ _ e => e) (fun b ps e => ⟨#[], by rw [e]; simp⟩) (fun m hm => ?_) (fun b u e => ?_) I.bare
  · have e : b = it := by simpa using hb
    subst e
    exact ⟨h1, hL, h2, h3⟩
  · obtain ⟨o, es, ep, ho, r⟩ := hm
    exact ⟨o, es, ep, k _ o (Ne.symm hL) ho, r⟩
  · refine (I.hok b u e).stay (fun c v hc q => k c v ?_ q) (fun _ q => q) fun _ _ q => q
    rcases hc with z | z
    · rw [z]; exact nit b u e
    · exact nit c _ z
theorem Inv.tok (I : Inv X pins σ H s) (t : Nat) : Inv X pins σ H { s with toks := t } := I.un (h' := s.heap) (t' := t) Un.refl I.hok
/-- all objects kept -/
theorem Inv.kept {t' : Nat} (I : Inv X pins σ H s) (k : ∀ b u, s.heap.get? b = some u → h'.get? b = some u) : Inv X pins σ H { s with heap := h', toks := t' } := I.un (Un.kept k) (I.hok.kept k)
/-- a new object laid and tracked -/
theorem Inv.laid {a : Addr} {o : HO} {t' : Nat} (I : Inv X pins σ H s) (k : ∀ b u, s.heap.get? b = some u → h'.get? b = some u) (hp : s.heap.objs.size ≤ a) (new : ObjOk X.prog X.w (upd H a o) h' a o) :
    Inv X pins σ (upd H a o) { s with heap := h', toks := t' } := I.un (Un.laid k hp (I.hok.fresh hp)) (I.hok.laid k hp new)
/-- an object written -/
theorem Inv.write {x e : Addr} {o : HO} {t' : Nat} (I : Inv X pins σ H s) (mu : Mut (H x)) (he : e = x ∨ H e = some (.own x)) (k : ∀ b u, b ≠ e → s.heap.get? b = some u → h'.get? b = some u) (heo : ∃ u, h'.get? e = some u)
    (new : ObjOk X.prog X.w (upd H x o) h' x o) : Inv X pins σ (upd H x o) { s with heap := h', toks := t' } := I.un (Un.write mu he k heo) (I.hok.write mu he k heo new)
/-- forgetting slots, pins -/
theorem Inv.weak {σ' : List (Option V)} (I : Inv X pins σ H s) (hl : σ'.length = σ.length) (w : ∀ (i : Nat) v, σ'[i]? = some (some v) → σ[i]? = some (some v)) : Inv X pins σ' H s :=
  ⟨I.ok, I.os, I.bare, I.base, let ⟨m, hn, hl'⟩ := I.loc; ⟨m, hn, fun i x v e1 e2 e3 => hl' i x v e1 (w i v e2) e3⟩, I.cell, I.free, I.freeC, I.pin, I.hok, hl.trans I.len⟩
theorem Inv.pins_of {pins' : List (Addr × Obj)} (I : Inv X pins σ H s) (h : ∀ p ∈ pins', s.heap.get? p.1 = some p.2 ∧ H p.1 = none ∧ p.1 ≠ X.env.locals ∧ p.1 ∉ X.fs ∧ ∀ v, p.2.data ≠ .cell v) : Inv X pins' σ H s :=
  ⟨I.ok, I.os, I.bare, I.base, I.loc, I.cell, I.free, I.freeC, fun p hp => (List.mem_append.mp hp).elim (fun z => I.pin p (List.mem_append_left _ z)) (h p), I.hok, I.len⟩

theorem nodup_ix {N : List Str} (hN : N.Nodup) {i j : Nat} {x : Str} (a : N[i]? = some x) (b : N[j]? = some x) : i = j := by
  obtain ⟨h1, e1⟩ := List.getElem?_eq_some_iff.mp a
  obtain ⟨h2, e2⟩ := List.getElem?_eq_some_iff.mp b
  exact (List.getElem_inj hN).mp (e1.trans e2.symm)

/-- a name is stored; what changed -/
theorem store_ok2 {M : Model} {A : Around} {E : Value → Shared → Prop} {i : Nat} {x : Str} {v : V} {u : Value} {Q : Unit → Shared → Prop} (I : Inv X pins σ H s) (hN : X.N.Nodup) (hi : X.N[i]? = some x) (hx : Loc X.env.scope x) (r : RelV v u)
    (h : ∀ s', Inv X pins (σ.set i (some v)) H s' → (∃ a, Heap.SameBut a s.heap s'.heap ∧ (a = X.env.locals ∨ X.env.cells.lookup x = some a)) → Q () s') (hf : X.fn x = true ∨ X.env.scope.names.lookup x = some .local := by first | exact .inl rfl | exact .inr rfl | assumption) : wpAny M A (storeName X.env x u) Q E s := by
  obtain ⟨m, hn, hl⟩ := id I.loc
  have hcls : (X.env.scope.kind == .class || (X.env.scope.kind == .module && X.env.locals != X.env.globals)) = false := by rw [I.ok.kind]; rfl
  have hiσ : i < σ.length := by rw [I.len]; exact (List.getElem?_eq_some_iff.mp hi).1
  have cne := I.cne
  have tracked : ∀ {a : Addr} {h' : Heap}, (∃ o, s.heap.get? a = some o ∧ H a = none) → Heap.SameBut a s.heap h' → HOk X.prog X.w H h' := fun {a h'} ha hs b ob e => by
    obtain ⟨_, _, hfree⟩ := ha
    refine (I.hok b ob e).stay (fun c w' hc q => (hs.2 c ?_).trans q) (fun _ q => q) fun _ _ q => q
    rintro rfl
    rcases hc with rfl | hc
    · rw [hfree] at e; cases e
    · rw [hfree] at hc; cases hc
  rcases hx with hk | hk
  · refine wpAny_storeName_local hk hn (fun h' hn' hs => ?_) hcls
    obtain ⟨oL, _, _, hoL, _⟩ := id hn
    refine h _ ⟨I.ok, I.os, I.bare, ⟨fun b o e n hb hx => ?_, fun b o e n hb hx => ?_, I.base.free, fun b o e hx => ?_, I.base.tups, I.base.frzs, I.base.tbls⟩, ⟨_, hn', fun j y v' e1 e2 e3 => ?_⟩, fun y c e => ?_, I.free, I.freeC, fun p hp => ?_, tracked ⟨oL, hoL, I.free⟩ hs, by simpa using I.len⟩ ⟨_, hs, .inl rfl⟩
    · exact (hs.2 b (Nat.ne_of_lt (Nat.lt_of_lt_of_le (Heap.lt_size e) I.ok.above))).trans (I.base.keep b o e n hb hx)
    · obtain ⟨sl, e1⟩ := I.base.slot b o e n hb hx
      exact ⟨sl, (hs.2 b (Nat.ne_of_lt (Nat.lt_of_lt_of_le (Heap.lt_size e) I.ok.above))).trans e1⟩
    · obtain ⟨o', e1⟩ := I.base.there b o e hx
      exact ⟨o', (hs.2 b (Nat.ne_of_lt (Nat.lt_of_lt_of_le (Heap.lt_size e) I.ok.above))).trans e1⟩
    · by_cases hj : j = i
      · subst hj
        rw [hi] at e1; cases e1
        rw [List.getElem?_set_self hiσ] at e2
        cases e2
        exact ⟨u, r, .inl ⟨hk, by simp⟩⟩
      · rw [List.getElem?_set_ne (Ne.symm hj)] at e2
        obtain ⟨u', r', q⟩ := hl j y v' e1 e2 e3
        refine ⟨u', r', ?_⟩
        rcases q with ⟨k, e⟩ | ⟨k, c, e, z⟩
        · refine .inl ⟨k, ?_⟩
          have : y ≠ x := fun e => hj (nodup_ix hN e1 (e ▸ hi))
          simp [this, e]
        · exact .inr ⟨k, c, e, z.sameBut hs (cne y c e)⟩
    · obtain ⟨w', z⟩ := I.cell y c e
      exact ⟨w', z.sameBut hs (cne y c e)⟩
    · obtain ⟨e, n, ne, nf, d⟩ := I.pin p hp
      exact ⟨(hs.2 p.1 ne).trans e, n, ne, nf, d⟩
  · have hfn : X.fn x = true := by
      rcases hf with z | z
      · exact z
      · rw [z] at hk; cases hk
    obtain ⟨c, hc⟩ := I.ok.has x (.inl hk)
    obtain ⟨w', z⟩ := I.cell x c hc
    refine wpAny_storeName_cell I.ok.kind hk hc z (fun h' hc' hs => ?_)
    obtain ⟨oc, hoc, hocd⟩ := id z
    refine h { s with heap := h' } ⟨I.ok, I.os, I.bare, ⟨fun b o e n hb hx => ?_, fun b o e n hb hx => ?_, I.base.free, fun b o e hx => ?_, I.base.tups, I.base.frzs, I.base.tbls⟩, ⟨m, hn.sameBut hs (Ne.symm (cne x c hc)), fun j y v' e1 e2 e3 => ?_⟩, fun y c' e => ?_, I.free, I.freeC, fun p hp => ?_, tracked ⟨oc, hoc, I.freeC x c hc⟩ hs, by simpa using I.len⟩ ⟨c, hs, .inr hc⟩
    · exact (hs.2 b (Nat.ne_of_lt (Nat.lt_of_lt_of_le (Heap.lt_size e) (I.ok.cab x c hfn hc)))).trans (I.base.keep b o e n hb hx)
    · obtain ⟨sl, e1⟩ := I.base.slot b o e n hb hx
      exact ⟨sl, (hs.2 b (Nat.ne_of_lt (Nat.lt_of_lt_of_le (Heap.lt_size e) (I.ok.cab x c hfn hc)))).trans e1⟩
    · obtain ⟨o', e1⟩ := I.base.there b o e hx
      exact ⟨o', (hs.2 b (Nat.ne_of_lt (Nat.lt_of_lt_of_le (Heap.lt_size e) (I.ok.cab x c hfn hc)))).trans e1⟩
    · by_cases hj : j = i
      · subst hj
        rw [hi] at e1; cases e1
        rw [List.getElem?_set_self hiσ] at e2
        cases e2
        exact ⟨u, r, .inr ⟨.inl hk, c, hc, hc'⟩⟩
      · rw [List.getElem?_set_ne (Ne.symm hj)] at e2
        obtain ⟨u', r', q⟩ := hl j y v' e1 e2 e3
        refine ⟨u', r', ?_⟩
        rcases q with q | ⟨k, c', e, z'⟩
        · exact .inl q
        · refine .inr ⟨k, c', e, z'.sameBut hs ?_⟩
          rintro rfl
          exact hj (nodup_ix hN e1 (I.ok.inj _ _ _ e hc ▸ hi))
    · by_cases hcc : c' = c
      · subst hcc; exact ⟨_, hc'⟩
      · obtain ⟨w2, z2⟩ := I.cell y c' e
        exact ⟨w2, z2.sameBut hs hcc⟩
    · obtain ⟨e, n, ne, nf, d⟩ := I.pin p hp
      refine ⟨(hs.2 p.1 ?_).trans e, n, ne, nf, d⟩
      intro q
      rw [q, hoc] at e
      have q' : oc = p.2 := Option.some.inj e
      exact d w' (by rw [← q']; exact hocd)
theorem store_ok {M : Model} {A : Around} {E : Value → Shared → Prop} {i : Nat} {x : Str} {v : V} {u : Value} {Q : Unit → Shared → Prop} (I : Inv X pins σ H s) (hN : X.N.Nodup) (hi : X.N[i]? = some x) (hx : Loc X.env.scope x) (r : RelV v u)
    (h : ∀ s', Inv X pins (σ.set i (some v)) H s' → Q () s') (hf : X.fn x = true ∨ X.env.scope.names.lookup x = some .local := by first | exact .inl rfl | exact .inr rfl | assumption) : wpAny M A (storeName X.env x u) Q E s :=
  store_ok2 I hN hi hx r (fun s' I' _ => h s' I') hf
/-- behind a call or a block, the state as it is -/
theorem Inv.call' {s' : Shared} {ch : List Addr} (I : Inv X pins σ H s) (ho : s'.os = s.os) (u : Un (frs X.stack) ch H H' s.heap s'.heap) (hok : HOk X.prog X.w H' s'.heap) (hg : AllBare s'.gens)
    (hch : ∀ b ∈ ch, (b ∈ X.ex ∨ X.s₀.heap.objs.size ≤ b) ∧ b ≠ X.env.locals ∧ (∀ x c, X.env.cells.lookup x = some c → c ≠ b) ∧ ∀ p ∈ X.pn ++ pins, p.1 ≠ b) : Inv X pins σ H' s' := by
  obtain ⟨h', g', d', t', o'⟩ := s'
  have e : o' = s.os := ho
  subst e
  exact I.call (g' := g') (t' := t') (d' := d') u hok hg hch
end

/-! ### the judgements -/
/-- an exception: its class, its own dict's address (where it has one), the abstract heap behind it -/
abbrev XK := Value → Option Addr → Hp → Prop
abbrev St := List (Option V)
abbrev VK := V → Hp → Prop
/-- an expression's reading; a test's; an argument list's -/
abbrev TE := St → Hp → VK → Prop
abbrev TT := St → Hp → (Bool → Hp → Prop) → Prop
abbrev TA := St → Hp → (List V → Hp → Prop) → Prop
/-- what is wanted behind a statement -/
structure Ends where
  nx : St → Hp → Prop
  rt : VK
  bk : St → Hp → Prop := fun _ _ => False
  ct : St → Hp → Prop := fun _ _ => False
abbrev TS := Ends → St → Hp → Prop

def EP (X : Cx) (pins : List (Addr × Obj)) (σ : St) (Q : VK) (u : Value) (s' : Shared) : Prop := ∃ v H', Inv X pins σ H' s' ∧ RelV v u ∧ Q v H'
def TP (X : Cx) (pins : List (Addr × Obj)) (σ : St) (Q : Bool → Hp → Prop) (b : Bool) (s' : Shared) : Prop := ∃ H', Inv X pins σ H' s' ∧ Q b H'
def AP (X : Cx) (pins : List (Addr × Obj)) (σ : St) (Q : List V → Hp → Prop) (us : List Value) (s' : Shared) : Prop := ∃ vs H', Inv X pins σ H' s' ∧ Vals vs us ∧ Q vs H'
def SP (X : Cx) (pins : List (Addr × Obj)) (D : Ends) (f : Flow) (s' : Shared) : Prop :=
  match f with
  | .next => ∃ σ' H', Inv X pins σ' H' s' ∧ D.nx σ' H'
  | .brk => ∃ σ' H', Inv X pins σ' H' s' ∧ D.bk σ' H'
  | .cont => ∃ σ' H', Inv X pins σ' H' s' ∧ D.ct σ' H'
  | .ret u => ∃ v σ' H', Inv X pins σ' H' s' ∧ RelV v u ∧ D.rt v H'

def PE (X : Cx) (e : Expr) (t : TE) : Prop :=
  ∀ (pins : List (Addr × Obj)) (s : Shared) (σ : St) (H : Hp) (Q : VK), Inv X pins σ H s → t σ H Q → wpAny (model X.prog X.w) X.A (eval e X.env) (EP X pins σ Q) X.xe s
def PT (X : Cx) (e : Expr) (t : TT) : Prop :=
  ∀ (pins : List (Addr × Obj)) (s : Shared) (σ : St) (H : Hp) (Q : Bool → Hp → Prop), Inv X pins σ H s → t σ H Q → wpAny (model X.prog X.w) X.A (isTrue e X.env (eval e X.env)) (TP X pins σ Q) X.xe s
/-- a test whatever its 'whole' is (and, or) -/
def PW (X : Cx) (e : Expr) (t : TT) : Prop :=
  ∀ (whole : Sem Value) (pins : List (Addr × Obj)) (s : Shared) (σ : St) (H : Hp) (Q : Bool → Hp → Prop), Inv X pins σ H s → t σ H Q → wpAny (model X.prog X.w) X.A (isTrue e X.env whole) (TP X pins σ Q) X.xe s
theorem PW.pt {X : Cx} {e : Expr} {t : TT} (h : PW X e t) : PT X e t := h _
/-- an argument list (no star), from the left -/
def PA (X : Cx) (es : List Expr) (t : TA) : Prop :=
  ∀ (pos : Pos) (pins : List (Addr × Obj)) (s : Shared) (σ : St) (H : Hp) (Q : List V → Hp → Prop), Inv X pins σ H s → t σ H Q → wpAny (model X.prog X.w) X.A (spliced (backTo pos (starEach es X.env))) (AP X pins σ Q) X.xe s
def PS (X : Cx) (st : Stmt) (t : TS) : Prop :=
  ∀ (pins : List (Addr × Obj)) (s : Shared) (σ : St) (H : Hp) (D : Ends), Inv X pins σ H s → t D σ H → wpAny (model X.prog X.w) X.A (exec st X.env) (SP X pins D) X.xe s
def PSs (X : Cx) (st : List Stmt) (t : TS) : Prop :=
  ∀ (pins : List (Addr × Obj)) (s : Shared) (σ : St) (H : Hp) (D : Ends), Inv X pins σ H s → t D σ H → wpAny (model X.prog X.w) X.A (execs st X.env) (SP X pins D) X.xe s
/-- weaken the end -/
theorem thn {α : Type} {t : Sem α} {Q Q' : α → Shared → Prop} {M : Model} {A : Around} {E : Value → Shared → Prop} {s : Shared} (h : wpAny M A t Q E s) (hQ : ∀ a s, Q a s → Q' a s) : wpAny M A t Q' E s := wpAny_mono h hQ fun _ _ x => x
end L2

namespace L2
open PySem PySem.Spec PyProof.Rows
section
variable {X : Cx}


/-! ### names and constants -/
def tVar (i : Nat) : TE := fun σ H Q => ∃ v, σ[i]? = some (some v) ∧ Q v H
def tC (v : V) : TE := fun _ H Q => Q v H
theorem pe_var {i : Nat} {x : Str} {pos : Pos} (hN : X.N[i]? = some x) (hv : Vis X.env.scope x) (hd : (x == ("__debug__" : Str)) = false := by decide) (hcd : (x == ("__classdict__" : Str)) = false := by decide) : PE X (.Name x pos) (tVar i) := by
  intro pins s σ H Q I h
  obtain ⟨v, e, h⟩ := h
  obtain ⟨m, hn, hl⟩ := I.loc
  obtain ⟨u, r, l⟩ := hl i x v hN e hv
  have fin : EP X pins σ Q u s := ⟨v, H, I, r, h⟩
  rcases l with ⟨hk, hm⟩ | ⟨hk, c, hc, hcell⟩
  · exact wpAny_Name (wpAny_loadName_local I.ok.kind hk hn hm fin) hd
  · rcases hk with hk | hk
    · exact wpAny_Name (wpAny_loadName_cell I.ok.kind hk hc hcell fin) hd
    · exact wpAny_Name (wpAny_loadName_free I.ok.kind hk hc hcell fin hcd) hd
theorem pe_int {i j pos} : PE X (.Constant (.int i) j pos) (tC (.int i)) := fun _ _ _ H _ I h => wpAny_Constant_int ⟨.int i, H, I.tok _, ⟨_, rfl⟩, h⟩
theorem pe_bl {b j pos} : PE X (.Constant (.bool b) j pos) (tC (.bl b)) := fun _ _ _ H _ I h => Constant_bool ⟨.bl b, H, I, rfl, h⟩
theorem pe_str {x j pos} : PE X (.Constant (.str x) j pos) (tC (.str x)) := fun _ _ _ H _ I h => Calls.Constant_str ⟨.str x, H, I.tok _, ⟨_, rfl⟩, h⟩

/-- a global name of the def -/
def Gl (X : Cx) (x : Str) : Prop := X.env.kindOf x = some .globalImplicit
theorem ld_glob {E : Value → Shared → Prop} {pins : List (Addr × Obj)} {s : Shared} {σ : St} {H : Hp} {x : Str} {u : Value} {pos : Pos} {Q : Value → Shared → Prop} (I : Inv X pins σ H s) (hg : Gl X x) (hm : X.mg x = some u) (h : Q u s)
    (hd : (x == ("__debug__" : Str)) = false := by decide) : wpAny (model X.prog X.w) X.A (eval (.Name x pos) X.env) Q E s :=
  Calls.Name_function_global I.ok.kind hg (Calls.loadGlobal_global (by rw [I.ok.glob]; exact I.mod.glob.keeps I.bk) hm h) hd
theorem ld_blt {E : Value → Shared → Prop} {pins : List (Addr × Obj)} {s : Shared} {σ : St} {H : Hp} {x : Str} {u : Value} {pos : Pos} {Q : Value → Shared → Prop} (I : Inv X pins σ H s) (hg : Gl X x) (hm : X.mg x = none) (hv : bootBuiltins x = some u) (h : Q u s)
    (hn : x ≠ "__name__" := by decide) (hd : (x == ("__debug__" : Str)) = false := by decide) : wpAny (model X.prog X.w) X.A (eval (.Name x pos) X.env) Q E s := by
  obtain ⟨mb, h1, h2⟩ := I.mod.blt
  exact Calls.Name_function_global I.ok.kind hg (Calls.loadGlobal_builtin (by rw [I.ok.glob]; exact I.mod.glob.keeps I.bk) hm (by rw [I.ok.blt]; exact h1.keeps I.bk) ((h2 x hn).trans hv) h) hd
/-- a module's constant, a class, a function, as a value -/
theorem pe_glob {x : Str} {v : V} {u : Value} {pos : Pos} (hg : Gl X x) (hm : X.mg x = some u) (r : RelV v u) (hd : (x == ("__debug__" : Str)) = false := by decide) : PE X (.Name x pos) (tC v) :=
  fun _ _ _ H _ I h => ld_glob I hg hm ⟨v, H, I, r, h⟩ hd
theorem pe_bltn {x : Str} {v : V} {u : Value} {pos : Pos} (hg : Gl X x) (hm : X.mg x = none) (hv : bootBuiltins x = some u) (r : RelV v u) (hn : x ≠ "__name__" := by decide) (hd : (x == ("__debug__" : Str)) = false := by decide) : PE X (.Name x pos) (tC v) :=
  fun _ _ _ H _ I h => ld_blt I hg hm hv ⟨v, H, I, r, h⟩ hn hd

/-! ### arithmetic -/
variable {a b : Expr} {ta tb : TE} {pos : Pos}

/-! ### comparisons -/
/-- a comparison as a value, as a test -/
def tB (t : TE) : TT := fun σ H Q => t σ H fun x H1 => ∃ c, x = .bl c ∧ Q c H1
/-- an expression whose value is a bool, as a test -/
theorem pt_val {e : Expr} {t : TE} (h : PE X e t) (he : ∀ whole, isTrue e X.env whole = (do let v ← whole; standAt e.pos; holding [v] (truthy v)) := by intro _; rfl) : PT X e (tB t) := by
  intro pins s σ H Q I hw
  refine isTrue_plain (thn (h pins s σ H _ I hw) fun v s1 ⟨x, H1, I1, r1, q1⟩ => ?_) (he _)
  obtain ⟨d, rfl, q⟩ := q1
  cases r1
  exact wpAny_truthy_bool ⟨H1, I1, q⟩

/-! ### and, or, not -/
variable {tA tB' : TT} {rest : List Expr}
def tAnd (t u : TT) : TT := fun σ H Q => t σ H fun c H1 => if c = true then u σ H1 Q else Q false H1
def tOr (t u : TT) : TT := fun σ H Q => t σ H fun c H1 => if c = true then Q true H1 else u σ H1 Q
def tNot (t : TT) : TT := fun σ H Q => t σ H fun c H1 => Q (!c) H1
theorem pw_and1 (ha : PT X a tA) : PW X (.BoolOp .And [a] pos) tA := by
  intro wh pins s σ H Q I h
  refine isTrue_and (thn (ha pins s σ H Q I h) fun c s1 e => ?_)
  cases c with
  | true => exact isTrue_and_nil e
  | false => exact e
theorem pw_or1 (ha : PT X a tA) : PW X (.BoolOp .Or [a] pos) tA := by
  intro wh pins s σ H Q I h
  refine isTrue_or (thn (ha pins s σ H Q I h) fun c s1 e => ?_)
  cases c with
  | false => exact isTrue_or_nil e
  | true => exact e
theorem pw_and (ha : PT X a tA) (hb : PW X (.BoolOp .And (b :: rest) pos) tB') : PW X (.BoolOp .And (a :: b :: rest) pos) (tAnd tA tB') := by
  intro wh pins s σ H Q I h
  refine isTrue_and (thn (ha pins s σ H _ I h) fun c s1 ⟨H1, I1, q1⟩ => ?_)
  cases c with
  | true => exact hb wh pins s1 σ H1 Q I1 q1
  | false => exact ⟨H1, I1, q1⟩
theorem pw_or (ha : PT X a tA) (hb : PW X (.BoolOp .Or (b :: rest) pos) tB') : PW X (.BoolOp .Or (a :: b :: rest) pos) (tOr tA tB') := by
  intro wh pins s σ H Q I h
  refine isTrue_or (thn (ha pins s σ H _ I h) fun c s1 ⟨H1, I1, q1⟩ => ?_)
  cases c with
  | true => exact ⟨H1, I1, q1⟩
  | false => exact hb wh pins s1 σ H1 Q I1 q1
theorem pt_not (ha : PT X a tA) : PT X (.UnaryOp .Not a pos) (tNot tA) := by
  intro pins s σ H Q I h
  exact isTrue_not (ha pins s σ H (fun c H1 => Q (!c) H1) I h)
/-- .. as values (bools) -/
def tAndV (ta tb : TE) : TE := fun σ H Q => ta σ H fun x H1 => ∃ c, x = .bl c ∧ if c = true then tb σ H1 Q else Q (.bl false) H1
def tNotV (ta : TE) : TE := fun σ H Q => ta σ H fun x H1 => ∃ c, x = .bl c ∧ Q (.bl (!c)) H1
theorem pe_one {op} {t : TE} (h : PE X a t) : PE X (.BoolOp op [a] pos) t := fun pins s σ H Q I hw => BoolOp_one (h pins s σ H Q I hw)
theorem pe_and (ha : PE X a ta) (hb : PE X (.BoolOp .And (b :: rest) pos) tb) : PE X (.BoolOp .And (a :: b :: rest) pos) (tAndV ta tb) := by
  intro pins s σ H Q I h
  refine BoolOp_and (thn (ha pins s σ H _ I h) fun v s1 ⟨x, H1, I1, r1, q1⟩ => ?_)
  obtain ⟨c, rfl, q1⟩ := q1
  cases r1
  refine wpAny_truthy_bool ?_
  cases c with
  | true => exact hb pins s1 σ H1 Q I1 q1
  | false => exact ⟨.bl false, H1, I1, rfl, q1⟩
theorem pe_not (ha : PE X a ta) : PE X (.UnaryOp .Not a pos) (tNotV ta) := by
  intro pins s σ H Q I h
  refine UnaryOp_ (thn (ha pins s σ H _ I h) fun v s1 ⟨x, H1, I1, r1, q1⟩ => ?_)
  obtain ⟨c, rfl, q1⟩ := q1
  cases r1
  exact not_of (wpAny_truthy_bool ⟨.bl (!c), H1, I1, rfl, q1⟩)
end
end L2

namespace L2
open PySem PySem.Spec PyProof.Rows

/-! ### a list, a tuple that is read: tracked, frozen, or an object of the module -/
def SqL (K : PySem.W.Frag) (H : Hp) (a : Addr) (xs : List V) : Prop :=
  Rd H a (.lst xs) ∨
    ∃ (o : Obj) (its : Array Value) (n : Nat), K.lookup a = some o ∧ o.cls = .type "list" ∧ o.dict = none ∧ o.data = .seq its n ∧ its.size ≤ sizeLine ∧ Vals xs its.toList
def SqT (K : PySem.W.Frag) (H : Hp) (a : Addr) (xs : List V) : Prop :=
  Rd H a (.tup xs) ∨
    ∃ (o : Obj) (its : Array Value) (n : Nat), K.lookup a = some o ∧ o.cls = .type "tuple" ∧ o.data = .seq its n ∧ its.size ≤ sizeLine ∧ Vals xs its.toList
def absV : Value → Option V
  | .none => some .non
  | .bool b => some (.bl b)
  | .int i _ => some (.int i)
  | .str x _ => some (.str x)
  | .bytes b _ => some (.byt b)
  | .float b _ => some (.flt b)
  | .ref a => some (.ref a)
  | .type n => some (.ty n)
  | _ => none
theorem RelV.abs {x : V} {u : Value} (r : RelV x u) : absV u = some x := by
  cases x with
  | non => cases r; rfl
  | bl _ => cases r; rfl
  | int _ => obtain ⟨t, rfl⟩ := r; rfl
  | str _ => obtain ⟨t, rfl⟩ := r; rfl
  | byt _ => obtain ⟨t, rfl⟩ := r; rfl
  | flt _ => obtain ⟨t, rfl⟩ := r; rfl
  | ref _ => cases r; rfl
  | ty _ => cases r; rfl
theorem RelV.inj {x y : V} {u : Value} (r : RelV x u) (q : RelV y u) : x = y := Option.some.inj (r.abs.symm.trans q.abs)
theorem Vals.inj : ∀ {xs ys : List V} {us : List Value}, Vals xs us → Vals ys us → xs = ys
  | _, _, _, .nil, .nil => rfl
  | _, _, _, .cons r t, .cons r' t' => by rw [r.inj r', Vals.inj t t']
section
variable {X : Cx} {pins : List (Addr × Obj)} {σ : St} {H : Hp} {s : Shared} {a : Addr} {xs ys : List V}
theorem SqL.of {K : PySem.W.Frag} (h : H a = some (.lst xs)) : SqL K H a xs := .inl (.inl h)
theorem SqT.of {K : PySem.W.Frag} (h : H a = some (.tup xs)) : SqT K H a xs := .inl (.inl h)
theorem Inv.list (I : Inv X pins σ H s) (h : SqL X.K H a xs) : ∃ its : List Value, Vals xs its ∧ PlainL s.heap a its.toArray ∧ xs.length ≤ sizeLine := by
  rcases h with h | ⟨o, its, n, hk, hc, hd, hs, hz, r⟩
  · obtain ⟨z, its, n, r, e⟩ := h.ok I.hok
    exact ⟨its, r, ⟨_, n, e, rfl, rfl, rfl⟩, z⟩
  · refine ⟨its.toList, r, ⟨o, n, I.kIn a o hk, hc, hd, by simpa using hs⟩, ?_⟩
    have e := r.length
    simp only [Array.length_toList] at e
    omega
theorem Inv.tuple (I : Inv X pins σ H s) (h : SqT X.K H a xs) : ∃ its : List Value, Vals xs its ∧ IsTup s.heap a its.toArray ∧ xs.length ≤ sizeLine := by
  rcases h with h | ⟨o, its, n, hk, hc, hs, hz, r⟩
  · obtain ⟨z, its, r, p⟩ := h.ok I.hok
    exact ⟨its, r, p, z⟩
  · refine ⟨its.toList, r, ⟨o, I.kIn a o hk, hc, n, by simpa using hs⟩, ?_⟩
    have e := r.length
    simp only [Array.length_toList] at e
    omega
theorem Inv.list_inj (I : Inv X pins σ H s) (h : SqL X.K H a xs) (h' : SqL X.K H a ys) : xs = ys := by
  obtain ⟨its, r, ⟨o, n, e, _, _, d⟩, _⟩ := I.list h
  obtain ⟨its', r', ⟨o', n', e', _, _, d'⟩, _⟩ := I.list h'
  rw [e] at e'; cases e'
  rw [d] at d'
  injection d' with d1 _
  have : its = its' := by simpa using congrArg Array.toList d1
  subst this
  exact r.inj r'
theorem Inv.tuple_inj (I : Inv X pins σ H s) (h : SqT X.K H a xs) (h' : SqT X.K H a ys) : xs = ys := by
  obtain ⟨its, r, ⟨o, e, _, n, d⟩, _⟩ := I.tuple h
  obtain ⟨its', r', ⟨o', e', _, n', d'⟩, _⟩ := I.tuple h'
  rw [e] at e'; cases e'
  rw [d] at d'
  injection d' with d1 _
  have : its = its' := by simpa using congrArg Array.toList d1
  subst this
  exact r.inj r'
end

/-! ### another wish about exceptions -/
abbrev Cx.wish (X : Cx) (E : Value → Shared → Prop) : Cx := { X with xe := E }
/-- no exception leaves -/
abbrev Cx.nox (X : Cx) : Cx := X.wish fun _ _ => False
theorem Cx.Ok.wish {X : Cx} (ok : X.Ok) (E : Value → Shared → Prop) : (X.wish E).Ok :=
  ⟨ok.mod, ok.kind, ok.glob, ok.blt, ok.above, ok.inj, ok.has, ok.cab, ok.hd, ok.frames, ok.stk, ok.exf, ok.bs, ok.bsz, ok.noex, ok.exfs, ok.funs, ok.frf⟩
theorem Cx.Ok.unwish {X : Cx} {E : Value → Shared → Prop} (ok : (X.wish E).Ok) : X.Ok :=
  ⟨ok.mod, ok.kind, ok.glob, ok.blt, ok.above, ok.inj, ok.has, ok.cab, ok.hd, ok.frames, ok.stk, ok.exf, ok.bs, ok.bsz, ok.noex, ok.exfs, ok.funs, ok.frf⟩
section
variable {X : Cx} {pins : List (Addr × Obj)} {σ : St} {H : Hp} {s : Shared} {E : Value → Shared → Prop}
theorem Inv.wish (I : Inv X pins σ H s) (E : Value → Shared → Prop) : Inv (X.wish E) pins σ H s := ⟨I.ok.wish E, I.os, I.bare, I.base, I.loc, I.cell, I.free, I.freeC, I.pin, I.hok, I.len⟩
theorem Inv.unwish (I : Inv (X.wish E) pins σ H s) : Inv X pins σ H s := ⟨I.ok.unwish, I.os, I.bare, I.base, I.loc, I.cell, I.free, I.freeC, I.pin, I.hok, I.len⟩
theorem SP.unwish {D : Ends} {f : Flow} {s' : Shared} (h : SP (X.wish E) pins D f s') : SP X pins D f s' := by
  cases f with
  | next => obtain ⟨σ', H', I, q⟩ := h; exact ⟨σ', H', I.unwish, q⟩
  | brk => obtain ⟨σ', H', I, q⟩ := h; exact ⟨σ', H', I.unwish, q⟩
  | cont => obtain ⟨σ', H', I, q⟩ := h; exact ⟨σ', H', I.unwish, q⟩
  | ret u => obtain ⟨v, σ', H', I, r, q⟩ := h; exact ⟨v, σ', H', I.unwish, r, q⟩
theorem PSs.nox {st : List Stmt} {t : TS} (h : PSs X.nox st t) : PSs X st t := fun pins s σ H D I hw =>
  wpAny_mono (h pins s σ H D (I.wish _) hw) (fun _ _ q => q.unwish) fun _ _ z => False.elim z
end

/-! ### blocks and small statements -/
section
variable {X : Cx} {st : Stmt} {rest : List Stmt} {t u : TS} {e : Expr} {te : TE} {pos : Pos}
def tNext : TS := fun D σ H => D.nx σ H
def tSeq (t u : TS) : TS := fun D σ H => t { D with nx := u D } σ H
theorem pss_nil : PSs X [] tNext := fun _ _ σ H _ I h => wpAny_execs_nil ⟨σ, H, I, h⟩
theorem pss_cons (h1 : PS X st t) (h2 : PSs X rest u) : PSs X (st :: rest) (tSeq t u) := by
  intro pins s σ H D I h
  refine wpAny_execs_cons (thn (h1 pins s σ H { D with nx := u D } I h) fun f s1 q => ?_)
  cases f with
  | next =>
    obtain ⟨σ', H', I', q⟩ := q
    exact h2 pins s1 σ' H' D I' q
  | ret v => exact q
  | brk => exact q
  | cont => exact q
theorem pss_one (h1 : PS X st t) : PSs X [st] t := by
  intro pins s σ H D I h
  refine wpAny_execs_cons (thn (h1 pins s σ H D I h) fun f s1 q => ?_)
  cases f with
  | next => exact wpAny_execs_nil q
  | ret v => exact q
  | brk => exact q
  | cont => exact q
/-- in a def's body nothing is shown -/
theorem Inv.quiet {pins : List (Addr × Obj)} {σ : St} {H : Hp} {s : Shared} (I : Inv X pins σ H s) : interactive X.env = false := by simp [interactive, I.ok.kind]
/-- an expression whose value is dropped -/
def tDrop (te : TE) : TS := fun D σ H => te σ H fun _ H1 => D.nx σ H1
theorem ps_expr (he : PE X e te) (hs : swapsWith e none pos.line X.env = pure false := by rfl) : PS X (.Expr e pos) (tDrop te) := by
  intro pins s σ H D I h
  exact wpAny_Expr_any (thn (he pins s σ H _ I h) fun v s1 ⟨x, H1, I1, r1, q1⟩ => ⟨σ, H1, I1, q1⟩) I.quiet hs
def tRet (te : TE) : TS := fun D σ H => te σ H D.rt
theorem ps_ret (he : PE X e te) : PS X (.Return (some e) pos) (tRet te) := by
  intro pins s σ H D I h
  exact wpAny_Return_some (thn (he pins s σ H _ I h) fun v s1 ⟨x, H1, I1, r1, q1⟩ => ⟨x, σ, H1, I1, r1, q1⟩)
def tIfS (c : TT) (t u : TS) : TS := fun D σ H => c σ H fun b H1 => if b = true then t D σ H1 else u D σ H1
theorem ps_if {c : Expr} {a b : List Stmt} {tc : TT} (hc : PT X c tc) (ha : PSs X a t) (hb : PSs X b u) : PS X (.If c a b pos) (tIfS tc t u) := by
  intro pins s σ H D I h
  refine wpAny_If (thn (hc pins s σ H _ I h) fun d s1 ⟨H1, I1, q1⟩ => ?_)
  cases d with
  | true => exact ha pins s1 σ H1 D I1 q1
  | false => exact hb pins s1 σ H1 D I1 q1
/-- code that the proof never comes to -/
def tNever : TS := fun _ _ _ => False
theorem ps_never : PS X st tNever := fun _ _ _ _ _ _ h => h.elim
end

/-! ### targets -/
abbrev TG := V → St → Hp → (St → Hp → Prop) → Prop
abbrev TGs := List V → St → Hp → (St → Hp → Prop) → Prop
def PG (X : Cx) (target : Expr) (t : TG) : Prop :=
  ∀ (pins : List (Addr × Obj)) (s : Shared) (σ : St) (H : Hp) (v : V) (u : Value) (Q : St → Hp → Prop), Inv X pins σ H s → RelV v u → t v σ H Q →
    wpAny (model X.prog X.w) X.A (assign target X.env u) (fun _ s' => ∃ σ' H', Inv X pins σ' H' s' ∧ Q σ' H') X.xe s
/-- several targets, one after another -/
def PGs (X : Cx) (ts : List Expr) (t : TGs) : Prop :=
  ∀ (pins : List (Addr × Obj)) (s : Shared) (σ : St) (H : Hp) (vs : List V) (us : List Value) (Q : St → Hp → Prop), Inv X pins σ H s → Vals vs us → t vs σ H Q →
    wpAny (model X.prog X.w) X.A (assignInOrder ((assignEach ts X.env).map (·.2)) us) (fun _ s' => ∃ σ' H', Inv X pins σ' H' s' ∧ Q σ' H') X.xe s
/-- o[i] = v, by values -/
abbrev TSet := V → V → V → Hp → (Hp → Prop) → Prop
def PSet (X : Cx) (t : TSet) : Prop :=
  ∀ (pins : List (Addr × Obj)) (s : Shared) (σ : St) (H : Hp) (o i v : V) (ov iv u : Value) (Q : Hp → Prop), Inv X pins σ H s → RelV o ov → RelV i iv → RelV v u → t o i v H Q →
    wpAny (model X.prog X.w) X.A (setItem ov iv u) (fun _ s' => ∃ H', Inv X pins σ H' s' ∧ Q H') X.xe s
section
variable {X : Cx} {pos : Pos}
def gName (i : Nat) : TG := fun v σ H Q => Q (σ.set i (some v)) H
theorem pg_name {i : Nat} {x : Str} (hN : X.N.Nodup) (hi : X.N[i]? = some x) (hx : Loc X.env.scope x) (hf : X.fn x = true ∨ X.env.scope.names.lookup x = some .local := by first | exact .inl rfl | exact .inr rfl | assumption) : PG X (.Name x pos) (gName i) := by
  intro pins s σ H v u Q I r h
  exact wpAny_assign_Name (store_ok I hN hi hx r (fun s' I' => ⟨_, H, I', h⟩) hf)
def gNil : TGs := fun vs σ H Q => vs = [] ∧ Q σ H
def gCons (t : TG) (u : TGs) : TGs := fun vs σ H Q => ∃ v r, vs = v :: r ∧ t v σ H fun σ' H' => u r σ' H' Q
theorem pgs_nil : PGs X [] gNil := by
  intro pins s σ H vs us Q I r h
  obtain ⟨e, h⟩ := h
  subst e
  cases r
  exact assignInOrder_nil ⟨σ, H, I, h⟩
theorem pgs_cons {e : Expr} {es : List Expr} {t : TG} {u : TGs} (h1 : PG X e t) (h2 : PGs X es u)
    (hs : (assignEach (e :: es) X.env).map (·.2) = assign e X.env :: (assignEach es X.env).map (·.2) := by rfl) : PGs X (e :: es) (gCons t u) := by
  intro pins s σ H vs us Q I r h
  obtain ⟨v, vr, e1, h⟩ := h
  subst e1
  cases r with
  | cons r rr =>
    rw [hs]
    refine assignInOrder_cons (thn (h1 pins s σ H _ _ _ I r h) fun _ s1 ⟨σ1, H1, I1, q1⟩ => ?_)
    exact h2 pins s1 σ1 H1 _ _ Q I1 rr q1
/-- (a, b, ..) = a tuple of that length -/
def gTup (K : PySem.W.Frag) (n : Nat) (t : TGs) : TG := fun v σ H Q => ∃ a xs, v = .ref a ∧ SqT K H a xs ∧ xs.length = n ∧ t xs σ H Q
theorem pg_tup {es : List Expr} {k : Nat} {t : TGs} {n : Nat} (hc : X.calm = true) (h : PGs X es t)
    (hn : (assignEach es X.env).length = n := by rfl) (hst : (assignEach es X.env).findIdx? (·.1) = none := by rfl) : PG X (.Tuple es k pos) (gTup X.K n t) := by
  intro pins s σ H v u Q I r hw
  obtain ⟨a, xs, e1, hq, hl, hw⟩ := hw
  subst e1
  cases r
  obtain ⟨its, rv, ht, hz⟩ := I.tuple hq
  refine assign_Tuple_tuple (I.ok.hd hc) ht (by simp [hn, ← hl, rv.length]) hst fun h' hx => ?_
  have I1 : Inv X pins σ H { s with heap := h' } := I.kept (t' := s.toks) fun b o e => hx b o (Nat.ne_of_lt (Heap.lt_size e)) e
  exact h pins _ σ H xs _ Q I1 (by simpa using rv) hw
/-- o[i] = .. -/
def gSub (to ti : TE) (t : TSet) : TG := fun v σ H Q => to σ H fun o H1 => ti σ H1 fun i H2 => t o i v H2 fun H3 => Q σ H3
theorem pg_sub {o i : Expr} {to ti : TE} {t : TSet} (ho : PE X o to) (hi : PE X i ti) (hs : PSet X t)
    (ha : ∀ v, assign (.Subscript o i pos) X.env v = (do
      let ov ← holding [v] (eval o X.env)
      let iv ← holding [v, ov] (eval i X.env)
      standAt pos
      holding [v, ov, iv] (setItem ov iv v)
      release [v, ov, iv] []) := by intro _; rfl) : PG X (.Subscript o i pos) (gSub to ti t) := by
  intro pins s σ H v u Q I r h
  rw [ha]
  refine wpAny_bind (wpAny_holding (thn (ho pins s σ H _ I h) fun ov s1 ⟨x, H1, I1, r1, q1⟩ => ?_))
  refine wpAny_bind (wpAny_holding (thn (hi pins s1 σ H1 _ I1 q1) fun iv s2 ⟨y, H2, I2, r2, q2⟩ => ?_))
  refine wpAny_bind (wpAny_standAt (wpAny_bind (wpAny_holding (thn (hs pins s2 σ H2 x y v ov iv u _ I2 r1 r2 r q2) fun _ s3 ⟨H3, I3, q3⟩ => ?_))))
  exact wpAny_release ⟨σ, H3, I3, q3⟩
/-- target = value -/
def tAsg (te : TE) (g : TG) : TS := fun D σ H => te σ H fun x H1 => g x σ H1 D.nx
theorem ps_asg {tg e : Expr} {te : TE} {g : TG} (he : PE X e te) (hg : PG X tg g) (hs : swapsWithSole [tg] e pos.line X.env = pure false := by rfl) (hw : swappedStores [tg] e X.env = pure none := by rfl)
    (h1 : (assignEach [tg] X.env).map (·.2) = [assign tg X.env] := by rfl) : PS X (.Assign [tg] e pos) (tAsg te g) := by
  intro pins s σ H D I h
  refine wpAny_Assign_stores (thn (he pins s σ H _ I h) fun v s1 ⟨x, H1, I1, r1, q1⟩ => ?_) hs hw
  rw [h1]
  exact thn (hg pins s1 σ H1 x v _ I1 r1 q1) fun _ s2 q => q
/-- name = value -/
theorem ps_set {i : Nat} {x : Str} {e : Expr} {te : TE} {pos' : Pos} (hN : X.N.Nodup) (hi : X.N[i]? = some x) (hx : Loc X.env.scope x) (he : PE X e te) (hs : swapsWith e (some (.Name x pos')) pos.line X.env = pure false := by rfl) (hf : X.fn x = true ∨ X.env.scope.names.lookup x = some .local := by first | exact .inl rfl | exact .inr rfl | assumption) :
    PS X (.Assign [.Name x pos'] e pos) (tAsg te (gName i)) := by
  intro pins s σ H D I h
  refine wpAny_Assign_Name (thn (he pins s σ H _ I h) fun v s1 ⟨y, H1, I1, r1, q1⟩ => ?_) hs
  exact store_ok I1 hN hi hx r1 (fun s2 I2 => ⟨_, H1, I2, q1⟩) hf
/-- a, b = x, y with plain local names: stored from the right; the pair itself is not tracked (the opening rows as in PyProof/Rows/TupAssign.lean:23) -/
def tPar (i j : Nat) (ta : TA) : TS := fun D σ H => ta σ H fun vs H1 => ∃ v w, vs = [v, w] ∧ D.nx ((σ.set i (some v)).set j (some w)) H1
theorem ps_par {i j : Nat} {x y : Str} {a b : Expr} {ta : TA} {px py pt : Pos} {kt k2 pt2} (hc : X.calm = true) (hN : X.N.Nodup) (hi : X.N[i]? = some x) (hj : X.N[j]? = some y) (hij : i ≠ j)
    (hx : X.env.scope.names.lookup x = some .local) (hy : X.env.scope.names.lookup y = some .local) (ha : PA X [a, b] ta)
    (hw : swappedStores [.Tuple [.Name x px, .Name y py] kt pt] (.Tuple [a, b] k2 pt2) X.env = pure (some [x, y]))
    (hs : swapsWithSole [.Tuple [.Name x px, .Name y py] kt pt] (.Tuple [a, b] k2 pt2) pos.line X.env = pure false := by rfl) :
    PS X (.Assign [.Tuple [.Name x px, .Name y py] kt pt] (.Tuple [a, b] k2 pt2) pos) (tPar i j ta) := by
  intro pins s σ H D I h
  rw [exec_Assign_arm]
  refine wpAny_bind (wpAny_standAt ?_)
  rw [hs]
  refine wpAny_bind (wpAny_pure ?_)
  rw [if_neg (by decide)]
  refine wpAny_bind (Tuple_ (thn (ha _ pins s σ H _ I h) fun us s1 ⟨vs, H1, I1, r1, q1⟩ => ?_))
  obtain ⟨v, w, e1, q1⟩ := q1
  subst e1
  obtain ⟨u1, u2, rfl, rv, rw'⟩ : ∃ u1 u2, us = [u1, u2] ∧ RelV v u1 ∧ RelV w u2 := by
    cases r1 with
    | cons p q =>
      cases q with
      | cons p' q' =>
        cases q'
        exact ⟨_, _, rfl, p, p'⟩
  refine wpAny_newObj_type ?_ (by show 2 ≤ sizeLine; decide)
  have I2 : Inv X pins σ H1 { s1 with heap := s1.heap.push { cls := .type "tuple", data := .seq [u1, u2].toArray } } := I1.kept (t' := s1.toks) fun b o e => Heap.get?_push_of_some _ e
  rw [hw]
  refine wpAny_bind (wpAny_pure ?_)
  show wpAny (model X.prog X.w) X.A (do rule "assign.swapped-stores"; let items ← unpackItems (.ref s1.heap.objs.size) 2 none; assignInOrder [fun v => bindName X.env y v, fun v => bindName X.env x v] items.reverse; pure Flow.next) _ _ _
  refine wpAny_bind (wpAny_rule (wpAny_bind (unpackItems_tuple (items := #[u1, u2]) (I.ok.hd hc) (IsTup.new s1.heap _) fun h' hx' => ?_)))
  have I3 := I2.kept (h' := h') (t' := s1.toks) fun b o e => hx' b o (Nat.ne_of_lt (Heap.lt_size e)) e
  show wpAny _ _ (assignInOrder [fun v => bindName X.env y v, fun v => bindName X.env x v] [u2, u1] >>= fun _ => pure Flow.next) _ _ _
  refine wpAny_bind (assignInOrder_cons (wpAny_bindName (store_ok I3 hN hj (.inl hy) rw' (fun s2 I4 => ?_) (.inr hy))))
  refine assignInOrder_cons (wpAny_bindName (store_ok I4 hN hi (.inl hx) rv (fun s3 I5 => assignInOrder_nil (wpAny_pure ?_)) (.inr hx)))
  rw [List.set_comm _ _ (Ne.symm hij)] at I5
  exact ⟨_, H1, I5, q1⟩
end

/-! ### while -/
section
variable {X : Cx} {pos : Pos}
/-- the invariant W with its measure -/
def tWhile (c : TT) (tb : TS) : TS := fun D σ H => ∃ W : Nat → St → Hp → Prop, (∃ m, W m σ H) ∧ ∀ m σ H, W m σ H →
  c σ H fun b H1 => if b = true then ∃ N : St → Hp → Prop, (∀ σ' H', N σ' H' → ∃ m', m' < m ∧ W m' σ' H') ∧ tb { D with nx := N, ct := N, bk := D.nx } σ H1 else D.nx σ H1
theorem ps_while {c : Expr} {body : List Stmt} {tc : TT} {tb : TS} (hp : PassesOwn (model X.prog X.w) X.A X.env X.xe) (hc : PT X c tc) (hb : PSs X body tb) : PS X (.While c body [] pos) (tWhile tc tb) := by
  intro pins s σ H D I h
  obtain ⟨W, ⟨m0, w0⟩, turn⟩ := h
  refine wpAny_While (codeAny_whileLoop (fun n s' => ∃ σ' H', Inv X pins σ' H' s' ∧ W n σ' H') ?_ m0 ⟨σ, H, I, w0⟩)
  rintro n s1 ⟨σ1, H1, I1, w1⟩
  refine wpAny_passesOwn hp (thn (hc pins s1 σ1 H1 _ I1 (turn n σ1 H1 w1)) fun b s2 ⟨H2, I2, q2⟩ => ?_)
  cases b with
  | true =>
    obtain ⟨N, hN, q2⟩ := q2
    rw [if_pos rfl]
    refine wpAny_passesOwn hp (thn (hb pins s2 σ1 H2 _ I2 q2) fun f s3 q3 => ?_)
    cases f with
    | next =>
      obtain ⟨σ3, H3, I3, n3⟩ := q3
      obtain ⟨m', hm, w3⟩ := hN σ3 H3 n3
      exact ⟨m', hm, σ3, H3, I3, w3⟩
    | cont =>
      obtain ⟨σ3, H3, I3, n3⟩ := q3
      obtain ⟨m', hm, w3⟩ := hN σ3 H3 n3
      exact ⟨m', hm, σ3, H3, I3, w3⟩
    | brk => exact q3
    | ret v => exact q3
  | false =>
    rw [if_neg Bool.false_ne_true]
    exact wpAny_execs_nil ⟨σ1, H2, I2, q2⟩
end

/-! ### what a loop or a comprehension walks -/
/-- at turn i: it yields x (the heap may grow), or it stops -/
structure It where
  go : Nat → Hp → Prop
  yld : Nat → Hp → V → Hp → Prop
  stop : Nat → Hp → Prop
/-- the iterator's own objects may turn: they are not the frame's, not pinned, younger than the entry (or a comprehension's own) -/
def FpOk (X : Cx) (pins : List (Addr × Obj)) (H : Hp) (b : Addr) : Prop :=
  H b = none ∧ b ≠ X.env.locals ∧ b ∉ X.fs ∧ (b ∈ X.ex ∨ X.s₀.heap.objs.size ≤ b) ∧ (∀ x c, X.env.cells.lookup x = some c → c ≠ b) ∧ ∀ p ∈ X.pn ++ pins, p.1 ≠ b
theorem Inv.fpOk {X : Cx} {pins : List (Addr × Obj)} {σ : St} {H H' : Hp} {s : Shared} {b : Addr} (I : Inv X pins σ H s) (hb : s.heap.objs.size ≤ b) (hn : H' b = none) : FpOk X pins H' b := by
  refine ⟨hn, Nat.ne_of_gt (Nat.lt_of_lt_of_le I.lt hb), I.nofs hb, .inr (Nat.le_trans I.sz hb), fun x c e z => ?_, fun p hp z => ?_⟩
  · obtain ⟨v, q⟩ := I.cell x c e
    exact absurd (Nat.lt_of_lt_of_le q.lt (by rw [z]; exact hb)) (Nat.lt_irrefl _)
  · exact absurd (Nat.lt_of_lt_of_le (Heap.lt_size (I.pin p hp).1) (by rw [z]; exact hb)) (Nat.lt_irrefl _)
structure Turn (P : Program) (w : World) (K : PySem.W.Frag) (tg : Expr) (J : It) (fp : List Addr) (it : Addr) (tn : Nat → Heap → Prop) : Prop where
  mem : it ∈ fp
  obj : ∀ i h, tn i h → ∀ b ∈ fp, ∃ o, h.get? b = some o ∧ ∀ v, o.data ≠ .cell v
  keep : ∀ i h h', tn i h → (∀ b ∈ fp, ∀ o, h.get? b = some o → h'.get? b = some o) → tn i h'
  item : ∀ (X : Cx), X.prog = P → X.w = w → X.K = K → X.calm = true → ∀ (i : Nat) (pins : List (Addr × Obj)) (s : Shared) (σ : St) (H : Hp) (E : Value → Shared → Prop), Inv X pins σ H s → (∀ b ∈ fp, FpOk X pins H b) → tn i s.heap → J.go i H →
    wpAny (model P w) X.A (pyNext (.ref it)) (fun r s1 => ∃ u, r = some u ∧
      wpAny (model P w) X.A (letOwnedTupleGo tg (.ref it) u) (fun _ s2 => ∃ x H', Inv X pins σ H' s2 ∧ RelV x u ∧ J.yld i H x H' ∧ tn (i + 1) s2.heap ∧ ∀ b ∈ fp, H' b = none) E s1) E s
  done : ∀ (X : Cx), X.prog = P → X.w = w → X.K = K → X.calm = true → ∀ (i : Nat) (pins : List (Addr × Obj)) (s : Shared) (σ : St) (H : Hp) (E : Value → Shared → Prop), Inv X pins σ H s → (∀ b ∈ fp, FpOk X pins H b) → tn i s.heap → J.stop i H →
    wpAny (model P w) X.A (pyNext (.ref it)) (fun r s1 => r = none ∧ Inv X pins σ H s1) E s
  self : ∀ (A : Around) (i : Nat) (s : Shared) (Q : Value → Shared → Prop) (E : Value → Shared → Prop), tn i s.heap → Q (.ref it) s → wpAny (model P w) A (pyIter (.ref it)) Q E s
abbrev TI := St → Hp → (It → Hp → Prop) → Prop
/-- an iterator has come -/
def PIE (X : Cx) (pins : List (Addr × Obj)) (σ : St) (tg : Expr) (R : It → Hp → Prop) (itv : Value) (s2 : Shared) : Prop :=
  ∃ (it : Addr) (fp : List Addr) (tn : Nat → Heap → Prop) (J : It) (H' : Hp), itv = .ref it ∧ Inv X pins σ H' s2 ∧ Turn X.prog X.w X.K tg J fp it tn ∧ tn 0 s2.heap ∧ (∀ b ∈ fp, FpOk X pins H' b) ∧ R J H'
def PI (X : Cx) (tg iter : Expr) (wi : TI) : Prop :=
  ∀ (pins : List (Addr × Obj)) (s : Shared) (σ : St) (H : Hp) (R : It → Hp → Prop), Inv X pins σ H s → wi σ H R →
    wpAny (model X.prog X.w) X.A (eval iter X.env) (fun v s1 => wpAny (model X.prog X.w) X.A (pyIter v) (PIE X pins σ tg R) X.xe s1) X.xe s

/-- the step ahead of the store is nothing for an iterator that keeps no tuple -/
theorem go_of {M : Model} {A : Around} {E : Value → Shared → Prop} {s : Shared} {tg : Expr} {it : Addr} {u : Value} {o : Obj} {n : String} {vs : Array Value} {Q : Unit → Shared → Prop} (ho : s.heap.get? it = some o) (hc : o.cls = .type n) (hd : o.data = .fields vs)
    (hn : ["enumerate", "zip", "dict_itemiterator", "dict_reverseitemiterator", "odict_iterator", "itertools.zip_longest", "itertools.pairwise"].contains n = false) (hQ : Q () s) : wpAny M A (letOwnedTupleGo tg (.ref it) u) Q E s := by
  unfold letOwnedTupleGo
  cases tg <;> first
    | exact wpAny_pure hQ
    | (cases u <;> first
        | exact wpAny_pure hQ
        | (refine wpAny_bind (wpAny_load ho ?_)
           rw [hc, hd]
           show wpAny M A (if (["enumerate", "zip", "dict_itemiterator", "dict_reverseitemiterator", "odict_iterator", "itertools.zip_longest", "itertools.pairwise"].contains n && vs[0]? == some (rawInt _)) = true then _ else _) Q E s
           rw [if_neg (by intro h; rw [hn, Bool.false_and] at h; cases h)]
           exact wpAny_pure hQ))

/-- the list at a, as it stands at each turn (a loop may append to it) -/
def Itl (K : PySem.W.Frag) (a : Addr) : It :=
  ⟨fun i H => ∃ xs x, SqL K H a xs ∧ xs[i]? = some x, fun i H x H' => H' = H ∧ ∀ xs, SqL K H a xs → xs[i]? = some x, fun i H => ∃ xs, SqL K H a xs ∧ xs.length ≤ i⟩
def Itt (K : PySem.W.Frag) (a : Addr) : It :=
  ⟨fun i H => ∃ xs x, SqT K H a xs ∧ xs[i]? = some x, fun i H x H' => H' = H ∧ ∀ xs, SqT K H a xs → xs[i]? = some x, fun i H => ∃ xs, SqT K H a xs ∧ xs.length ≤ i⟩
/-- lo, lo + 1, .. (n of them) -/
def Itr (lo : Int) (n : Nat) : It := ⟨fun i _ => i < n, fun i H x H' => H' = H ∧ x = .int (lo + i), fun i _ => n ≤ i⟩
theorem turn_list {P : Program} {w : World} {K : PySem.W.Frag} {tg : Expr} (a it : Addr) : Turn P w K tg (Itl K a) [it] it (fun i h => h.IsListIter it a i) where
  mem := by simp
  obj := fun i h st b hb => by
    have e : b = it := by simpa using hb
    subst e
    obtain ⟨o, e, c, d⟩ := st
    exact ⟨o, e, fun v z => by rw [d] at z; cases z⟩
  keep := fun i h h' st k => st.at fun o e => k it (by simp) o e
  item := by
    intro X hP hw hK hc i pins s σ H E I hf st hg
    subst hP hw hK
    obtain ⟨xs, x, hq, hx⟩ := hg
    obtain ⟨its, rv, p, hz⟩ := I.list hq
    obtain ⟨u, hu, ru⟩ := rv.get hx
    obtain ⟨f0, f1, f2, f3, f4, f5⟩ := hf it (by simp)
    refine wpAny_pyNext_list_item st p.isList (x := u) (by simpa using hu) fun h' st' sb => ?_
    have I1 : Inv X pins σ H { s with heap := h' } := I.turned (t' := s.toks) (fun b o hb e => (sb.2 b hb).trans e) f0 f1 f3 f4 f5
    obtain ⟨o, e, c, d⟩ := id st'
    exact ⟨u, rfl, go_of (s := { s with heap := h' }) e c d (by decide) ⟨x, H, I1, ru, ⟨rfl, fun ys hy => by rw [I.list_inj hy hq]; exact hx⟩, st', fun b hb => (hf b hb).1⟩⟩
  done := by
    intro X hP hw hK hc i pins s σ H E I hf st hg
    subst hP hw hK
    obtain ⟨xs, hq, hx⟩ := hg
    obtain ⟨its, rv, p, hz⟩ := I.list hq
    obtain ⟨f0, f1, f2, f3, f4, f5⟩ := hf it (by simp)
    have hl := rv.length
    exact wpAny_pyNext_list_end (I.ok.hd hc) st p.isList (by simp; omega) fun h' eb => ⟨rfl, I.turned (t' := s.toks) (fun b o hb e => eb b o hb e) f0 f1 f3 f4 f5⟩
  self := fun _ _ _ _ _ st h => wpAny_pyIter_listiter st h
theorem turn_tuple {P : Program} {w : World} {K : PySem.W.Frag} {tg : Expr} (a it : Addr) : Turn P w K tg (Itt K a) [it] it (fun i h => h.IsTupleIter it a i) where
  mem := by simp
  obj := fun i h st b hb => by
    have e : b = it := by simpa using hb
    subst e
    obtain ⟨o, e, c, d⟩ := st
    exact ⟨o, e, fun v z => by rw [d] at z; cases z⟩
  keep := fun i h h' st k => st.at fun o e => k it (by simp) o e
  item := by
    intro X hP hw hK hc i pins s σ H E I hf st hg
    subst hP hw hK
    obtain ⟨xs, x, hq, hx⟩ := hg
    obtain ⟨its, rv, p, hz⟩ := I.tuple hq
    obtain ⟨u, hu, ru⟩ := rv.get hx
    obtain ⟨f0, f1, f2, f3, f4, f5⟩ := hf it (by simp)
    refine wpAny_pyNext_tuple_item st (show s.heap.IsTuple a its.toArray from p) (x := u) (by simpa using hu) fun h' st' sb => ?_
    have I1 : Inv X pins σ H { s with heap := h' } := I.turned (t' := s.toks) (fun b o hb e => (sb.2 b hb).trans e) f0 f1 f3 f4 f5
    obtain ⟨o, e, c, d⟩ := id st'
    exact ⟨u, rfl, go_of (s := { s with heap := h' }) e c d (by decide) ⟨x, H, I1, ru, ⟨rfl, fun ys hy => by rw [I.tuple_inj hy hq]; exact hx⟩, st', fun b hb => (hf b hb).1⟩⟩
  done := by
    intro X hP hw hK hc i pins s σ H E I hf st hg
    subst hP hw hK
    obtain ⟨xs, hq, hx⟩ := hg
    obtain ⟨its, rv, p, hz⟩ := I.tuple hq
    obtain ⟨f0, f1, f2, f3, f4, f5⟩ := hf it (by simp)
    have hl := rv.length
    exact wpAny_pyNext_tuple_end (I.ok.hd hc) st (show s.heap.IsTuple a its.toArray from p) (by simp; omega) fun h' eb => ⟨rfl, I.turned (t' := s.toks) (fun b o hb e => eb b o hb e) f0 f1 f3 f4 f5⟩
  self := fun _ _ _ _ _ st h => wpAny_pyIter_tupleiter st h
theorem turn_range {P : Program} {w : World} {K : PySem.W.Frag} {tg : Expr} (it : Addr) (lo : Int) (n : Nat) : Turn P w K tg (Itr lo n) [it] it (fun i h => IsRangeIter h it (lo + (i : Nat) * 1) ((n : Int) - (i : Nat)) 1) where
  mem := by simp
  obj := fun i h st b hb => by
    have e : b = it := by simpa using hb
    subst e
    exact ⟨_, st, fun v z => by
      have z' : Data.fields _ = Data.cell v := z
      cases z'⟩
  keep := fun i h h' st k => k it (by simp) _ st
  item := by
    intro X hP hw hK hc i pins s σ H E I hf st hg
    subst hP hw hK
    obtain ⟨f0, f1, f2, f3, f4, f5⟩ := hf it (by simp)
    have W := Walks.range (prog := X.prog) (w := X.w) (I.ok.hd hc) it lo 1 n
    refine W.item i s _ _ hg st fun v h' tk hv st' kk => ?_
    obtain ⟨t, rfl⟩ := hv
    have I1 : Inv X pins σ H { s with heap := h', toks := tk } := I.turned (fun b o hb e => kk b o (by simpa using hb) e) f0 f1 f3 f4 f5
    refine ⟨_, rfl, go_of (s := { s with heap := h', toks := tk }) (n := "range_iterator") st' rfl rfl (by decide) ⟨.int (lo + i), H, I1, ⟨t, ?_⟩, ⟨rfl, rfl⟩, st', fun b hb => (hf b hb).1⟩⟩
    rw [Int.mul_one]
  done := by
    intro X hP hw hK hc i pins s σ H E I hf st hg
    subst hP hw hK
    obtain ⟨f0, f1, f2, f3, f4, f5⟩ := hf it (by simp)
    exact wpAny_pyNext_range_end (I.ok.hd hc) st (by have : n ≤ i := hg; omega) fun h' eb => ⟨rfl, I.turned (t' := s.toks) (fun b o hb e => eb b o hb e) f0 f1 f3 f4 f5⟩
  self := fun _ _ _ _ _ st h => wpAny_pyIter_rangeiter st h
end L2

namespace L2
open PySem PySem.Spec PyProof.Rows
section
variable {X : Cx} {tg : Expr}
def iList (K : PySem.W.Frag) (tl : TE) : TI := fun σ H R => tl σ H fun x H1 => ∃ a, x = .ref a ∧ (∃ xs, SqL K H1 a xs) ∧ R (Itl K a) H1
def iTup (K : PySem.W.Frag) (tl : TE) : TI := fun σ H R => tl σ H fun x H1 => ∃ a, x = .ref a ∧ (∃ xs, SqT K H1 a xs) ∧ R (Itt K a) H1
theorem pi_list {l : Expr} {tl : TE} (hl : PE X l tl) : PI X tg l (iList X.K tl) := by
  intro pins s σ H R I h
  refine thn (hl pins s σ H _ I h) fun v s1 ⟨x, H1, I1, r1, q1⟩ => ?_
  obtain ⟨a, e, ⟨xs, hq⟩, q⟩ := q1
  subst e
  cases r1
  obtain ⟨its, rv, p, hz⟩ := I1.list hq
  refine wpAny_pyIter_list p.isList ?_
  refine ⟨s1.heap.objs.size, [s1.heap.objs.size], _, _, H1, rfl, I1.kept (t' := s1.toks) fun b o e => Heap.get?_push_of_some _ e, turn_list a _, ⟨_, Heap.get?_push_size _ rfl, rfl, rfl⟩, fun b hb => ?_, q⟩
  have e : b = s1.heap.objs.size := by simpa using hb
  subst e
  exact I1.fpOk (Nat.le_refl _) (I1.hok.fresh (Nat.le_refl _))
theorem pi_tup {l : Expr} {tl : TE} (hl : PE X l tl) : PI X tg l (iTup X.K tl) := by
  intro pins s σ H R I h
  refine thn (hl pins s σ H _ I h) fun v s1 ⟨x, H1, I1, r1, q1⟩ => ?_
  obtain ⟨a, e, ⟨xs, hq⟩, q⟩ := q1
  subst e
  cases r1
  obtain ⟨its, rv, p, hz⟩ := I1.tuple hq
  refine wpAny_pyIter_tuple (show s1.heap.IsTuple a its.toArray from p) ?_
  refine ⟨s1.heap.objs.size, [s1.heap.objs.size], _, _, H1, rfl, I1.kept (t' := s1.toks) fun b o e => Heap.get?_push_of_some _ e, turn_tuple a _, ⟨_, Heap.get?_push_size _ rfl, rfl, rfl⟩, fun b hb => ?_, q⟩
  have e : b = s1.heap.objs.size := by simpa using hb
  subst e
  exact I1.fpOk (Nat.le_refl _) (I1.hok.fresh (Nat.le_refl _))
/-- a range object just made, walked -/
theorem range_it {pins : List (Addr × Obj)} {σ : St} {H : Hp} {s : Shared} {R : It → Hp → Prop} {E : Value → Shared → Prop} {lo hi : Int} {t u v : Tok} {tk : Nat} (I : Inv X pins σ H s) (h1 : -(2 ^ 62) ≤ lo) (h2 : lo < 2 ^ 62) (h3 : -(2 ^ 62) ≤ hi) (h4 : hi < 2 ^ 62)
    (q : R (Itr lo (hi - lo).toNat) H) : wpAny (model X.prog X.w) X.A (pyIter (.ref s.heap.objs.size)) (PIE X pins σ tg R) E { s with heap := s.heap.push { cls := .type "range", data := .fields #[.int lo t, .int hi u, .int 1 v] }, toks := tk } := by
  refine wpAny_pyIter_range (IsRange.new ..) (small_one h1 h2 h3 h4) ?_
  have I1 : Inv X pins σ H { s with heap := s.heap.push { cls := .type "range", data := .fields #[.int lo t, .int hi u, .int 1 v] }, toks := tk } := I.kept fun b o e => Heap.get?_push_of_some _ e
  refine ⟨(s.heap.push { cls := .type "range", data := .fields #[.int lo t, .int hi u, .int 1 v] }).objs.size, [(s.heap.push { cls := .type "range", data := .fields #[.int lo t, .int hi u, .int 1 v] }).objs.size], _, _, H, rfl,
    I1.kept (t' := tk) fun b o e => Heap.get?_push_of_some _ e, turn_range _ lo (hi - lo).toNat, ?_, fun b hb => ?_, q⟩
  · have e1 : lo + ((0 : Nat) : Int) * 1 = lo := by simp
    have e2 : (((hi - lo).toNat : Nat) : Int) - ((0 : Nat) : Int) = Builtin.Range.rangeSize lo hi 1 := by rw [rangeSize_one]; split <;> omega
    show IsRangeIter _ _ (lo + ((0 : Nat) : Int) * 1) ((((hi - lo).toNat : Nat) : Int) - ((0 : Nat) : Int)) 1
    rw [e1, e2]
    exact Heap.get?_push_size _ rfl
  · have e : b = (s.heap.push { cls := .type "range", data := .fields #[.int lo t, .int hi u, .int 1 v] }).objs.size := by simpa using hb
    subst e
    exact I1.fpOk (Nat.le_refl _) (I1.hok.fresh (Nat.le_refl _))
def iRng1 (ta : TA) : TI := fun σ H R => ta σ H fun vs H1 => ∃ j : Int, vs = [.int j] ∧ -(2 ^ 62) ≤ j ∧ j < 2 ^ 62 ∧ R (Itr 0 j.toNat) H1
def iRng2 (ta : TA) : TI := fun σ H R => ta σ H fun vs H1 => ∃ i j : Int, vs = [.int i, .int j] ∧ (-(2 ^ 62) ≤ i ∧ i < 2 ^ 62 ∧ -(2 ^ 62) ≤ j ∧ j < 2 ^ 62) ∧ R (Itr i (j - i).toNat) H1
theorem pi_range1 {a : Expr} {ta : TA} {p pos : Pos} (hg : Gl X "range") (hm : X.mg "range" = none) (ha : PA X [a] ta) (hs : starEach [a] X.env = [(false, eval a X.env)] := by rfl) : PI X tg (.Call (.Name "range" p) [a] [] pos) (iRng1 ta) := by
  intro pins s σ H R I h
  refine Call_ (ld_blt I hg hm boot_range (PyProof.Rows.callWith_type1 (thn (ha pos pins s σ H _ I h) fun us s1 ⟨vs, H1, I1, r1, q1⟩ => ?_) hs rfl))
  obtain ⟨j, e, q1, q2, q⟩ := q1
  subst e
  cases r1 with
  | cons r rr =>
    cases rr
    obtain ⟨t, rfl⟩ := r
    exact call_range_1 (range_it I1 (by omega) (by omega) q1 q2 (by simpa using q))
theorem pi_range2 {a b : Expr} {ta : TA} {p pos : Pos} (hg : Gl X "range") (hm : X.mg "range" = none) (ha : PA X [a, b] ta) (hs : starEach [a, b] X.env = [(false, eval a X.env), (false, eval b X.env)] := by rfl) (hs2 : starEach [b] X.env = [(false, eval b X.env)] := by rfl) :
    PI X tg (.Call (.Name "range" p) [a, b] [] pos) (iRng2 ta) := by
  intro pins s σ H R I h
  refine Call_ (ld_blt I hg hm boot_range (PyProof.Rows.callWith_type1 (thn (ha pos pins s σ H _ I h) fun us s1 ⟨vs, H1, I1, r1, q1⟩ => ?_) (by rw [hs, hs2]) (by rw [hs2]; rfl)))
  obtain ⟨i, j, e, ⟨q1, q2, q3, q4⟩, q⟩ := q1
  subst e
  cases r1 with
  | cons r rr =>
    cases rr with
    | cons r' rr =>
      cases rr
      obtain ⟨t, rfl⟩ := r
      obtain ⟨t', rfl⟩ := r'
      exact call_range_2 (range_it I1 q1 q2 q3 q4 q)

/-! ### for -/
/-- W: the invariant by the turn and a measure; N: what the body is to reach -/
def tFor (wi : TI) (g : TG) (tb : TS) : TS := fun D σ H => wi σ H fun J H1 => ∃ W : Nat → Nat → St → Hp → Prop, (∃ m, W 0 m σ H1) ∧ ∀ i m σ H, W i m σ H →
  (J.stop i H ∧ D.nx σ H) ∨ (J.go i H ∧ ∃ N : St → Hp → Prop, (∀ σ' H', N σ' H' → ∃ m', m' < m ∧ W (i + 1) m' σ' H') ∧ ∀ x H', J.yld i H x H' → g x σ H' fun σ2 H2 => tb { D with nx := N, ct := N, bk := D.nx } σ2 H2)
/-- the records at fp as they stand -/
def pinsAt (fp : List Addr) (h : Heap) : List (Addr × Obj) := fp.filterMap fun b => (h.get? b).map fun o => (b, o)
theorem mem_pinsAt {fp : List Addr} {h : Heap} {b : Addr} {o : Obj} (hb : b ∈ fp) (e : h.get? b = some o) : (b, o) ∈ pinsAt fp h := List.mem_filterMap.mpr ⟨b, hb, by rw [e]; rfl⟩
theorem of_pinsAt {fp : List Addr} {h : Heap} {p : Addr × Obj} (hp : p ∈ pinsAt fp h) : p.1 ∈ fp ∧ h.get? p.1 = some p.2 := by
  obtain ⟨b, hb, e⟩ := List.mem_filterMap.mp hp
  cases q : h.get? b with
  | none => rw [q] at e; cases e
  | some o =>
    rw [q] at e
    have e' : (b, o) = p := Option.some.inj e
    subst e'
    exact ⟨hb, q⟩
theorem Inv.pinned {pins : List (Addr × Obj)} {σ : St} {H : Hp} {s : Shared} {fp : List Addr} (I : Inv X pins σ H s) (hf : ∀ b ∈ fp, FpOk X pins H b) (ho : ∀ b ∈ fp, ∃ o, s.heap.get? b = some o ∧ ∀ v, o.data ≠ .cell v) : Inv X (pins ++ pinsAt fp s.heap) σ H s :=
  I.pins_of fun p hp => (List.mem_append.mp hp).elim (fun z => I.pin p (List.mem_append_right _ z)) fun z => by
    obtain ⟨hb, e⟩ := of_pinsAt z
    obtain ⟨f0, f1, f2, _⟩ := hf p.1 hb
    obtain ⟨o, e', d⟩ := ho p.1 hb
    rw [e] at e'; cases e'
    exact ⟨e, f0, f1, f2, d⟩
theorem Inv.unpinned {pins pl : List (Addr × Obj)} {σ : St} {H : Hp} {s : Shared} (I : Inv X (pins ++ pl) σ H s) : Inv X pins σ H s := I.pins_of fun p hp => I.pin p (List.mem_append_right _ (List.mem_append_left _ hp))
theorem ps_for {iter : Expr} {body : List Stmt} {wi : TI} {g : TG} {tb : TS} {pos : Pos} (hp : PassesOwn (model X.prog X.w) X.A X.env X.xe) (hc : X.calm = true) (hi : PI X tg iter wi) (hg : PG X tg g) (hb : PSs X body tb)
    (hs : ∀ x, foldedSetIterable iter X.env x = pure x := by intro _; rfl) : PS X (.For tg iter body [] pos) (tFor wi g tb) := by
  intro pins s σ H D I h
  refine wpAny_For (thn (hi pins s σ H _ I h) fun v s1 h1 => thn h1 fun itv s2 h2 => ?_) hs
  obtain ⟨it, fp, tn, J, H2, e, I2, T, st2, f2, W, ⟨m0, w0⟩, turn⟩ := h2
  subst e
  -- what stays true of the iterator's objects through the loop
  have stat : ∀ {H' : Hp}, (∀ b ∈ fp, H' b = none) → ∀ b ∈ fp, FpOk X pins H' b := fun hn b hb => ⟨hn b hb, (f2 b hb).2⟩
  refine codeAny_forLoop_any (fun n s' => ∃ i σ' H', Inv X pins σ' H' s' ∧ tn i s'.heap ∧ (∀ b ∈ fp, H' b = none) ∧ W i n σ' H') ?_ m0 ⟨0, σ, H2, I2, st2, fun b hb => (f2 b hb).1, w0⟩
  rintro n s3 ⟨i, σ3, H3, I3, st3, fr3, w3⟩
  rcases turn i n σ3 H3 w3 with ⟨stop, qn⟩ | ⟨go, N, hN, step⟩
  · refine wpAny_passesOwn hp (thn (T.done X rfl rfl rfl hc i pins s3 σ3 H3 X.xe I3 (stat fr3) st3 stop) fun r s4 ⟨hr, I4⟩ => ?_)
    subst hr
    exact wpAny_execs_nil ⟨σ3, H3, I4, qn⟩
  · refine wpAny_passesOwn hp (thn (T.item X rfl rfl rfl hc i pins s3 σ3 H3 X.xe I3 (stat fr3) st3 go) fun r s4 ⟨u, hr, h4⟩ => ?_)
    subst hr
    refine wpAny_passesOwn hp (thn h4 fun _ s5 ⟨x, H5, I5, r5, y5, st5, fr5⟩ => ?_)
    have I5' := I5.pinned (stat fr5) (T.obj _ _ st5)
    refine wpAny_passesOwn hp (thn (hg _ s5 σ3 H5 x u _ I5' r5 (step x H5 y5)) fun _ s6 ⟨σ6, H6, I6, q6⟩ => ?_)
    refine wpAny_passesOwn hp (thn (hb _ s6 σ6 H6 _ I6 q6) fun f s7 q7 => ?_)
    have again : ∀ {σ7 : St} {H7 : Hp}, Inv X (pins ++ pinsAt fp s5.heap) σ7 H7 s7 → N σ7 H7 → ∃ m, m < n ∧ ∃ i σ' H', Inv X pins σ' H' s7 ∧ tn i s7.heap ∧ (∀ b ∈ fp, H' b = none) ∧ W i m σ' H' := fun {σ7 H7} I7 n7 => by
      obtain ⟨m', hm, w7⟩ := hN σ7 H7 n7
      refine ⟨m', hm, i + 1, σ7, H7, I7.unpinned, T.keep _ _ _ st5 fun b hb o e => (I7.pin (b, o) (List.mem_append_right _ (List.mem_append_right _ (mem_pinsAt hb e)))).1, fun b hb => ?_, w7⟩
      obtain ⟨o, e, d⟩ := T.obj _ _ st5 b hb
      exact (I7.pin (b, o) (List.mem_append_right _ (List.mem_append_right _ (mem_pinsAt hb e)))).2.1
    cases f with
    | next => obtain ⟨σ7, H7, I7, n7⟩ := q7; exact again I7 n7
    | cont => obtain ⟨σ7, H7, I7, n7⟩ := q7; exact again I7 n7
    | brk => obtain ⟨σ7, H7, I7, q7⟩ := q7; exact ⟨σ7, H7, I7.unpinned, q7⟩
    | ret v => obtain ⟨x7, σ7, H7, I7, r7, q7⟩ := q7; exact ⟨x7, σ7, H7, I7.unpinned, r7, q7⟩
end

/-! ### the forms one uses -/
/-- over a list that the body leaves as it is -/
theorem for_list {K : PySem.W.Frag} {a : Addr} {xs : List V} {g : TG} {tb : TS} {D : Ends} {σ : St} {H : Hp} (Pv : Nat → St → Hp → Prop) (h0 : Pv 0 σ H) (hl : ∀ i σ H, i ≤ xs.length → Pv i σ H → SqL K H a xs)
    (hs : ∀ i x σ H, xs[i]? = some x → Pv i σ H → g x σ H fun σ2 H2 => tb { D with nx := Pv (i + 1), ct := Pv (i + 1), bk := D.nx } σ2 H2) (hd : ∀ σ H, Pv xs.length σ H → D.nx σ H) :
    ∃ W : Nat → Nat → St → Hp → Prop, (∃ m, W 0 m σ H) ∧ ∀ i m σ H, W i m σ H →
      ((Itl K a).stop i H ∧ D.nx σ H) ∨ ((Itl K a).go i H ∧ ∃ N : St → Hp → Prop, (∀ σ' H', N σ' H' → ∃ m', m' < m ∧ W (i + 1) m' σ' H') ∧ ∀ x H', (Itl K a).yld i H x H' → g x σ H' fun σ2 H2 => tb { D with nx := N, ct := N, bk := D.nx } σ2 H2) := by
  refine ⟨fun i m σ H => m = xs.length - i ∧ i ≤ xs.length ∧ Pv i σ H, ⟨xs.length, by simp, Nat.zero_le _, h0⟩, ?_⟩
  rintro i m σ H ⟨rfl, hi, p⟩
  have q := hl i σ H hi p
  by_cases hlt : i < xs.length
  · refine .inr ⟨⟨xs, xs[i], q, by simp [hlt]⟩, Pv (i + 1), fun σ' H' p' => ⟨xs.length - (i + 1), by omega, rfl, hlt, p'⟩, fun x H' y => ?_⟩
    obtain ⟨e, y⟩ := y
    subst e
    exact hs i x σ _ (y xs q) p
  · have e : i = xs.length := by omega
    subst e
    exact .inl ⟨⟨xs, q, Nat.le_refl _⟩, hd σ H p⟩
theorem for_range {lo : Int} {n : Nat} {g : TG} {tb : TS} {D : Ends} {σ : St} {H : Hp} (Pv : Nat → St → Hp → Prop) (h0 : Pv 0 σ H)
    (hs : ∀ i σ H, i < n → Pv i σ H → g (.int (lo + i)) σ H fun σ2 H2 => tb { D with nx := Pv (i + 1), ct := Pv (i + 1), bk := D.nx } σ2 H2) (hd : ∀ σ H, Pv n σ H → D.nx σ H) :
    ∃ W : Nat → Nat → St → Hp → Prop, (∃ m, W 0 m σ H) ∧ ∀ i m σ H, W i m σ H →
      ((Itr lo n).stop i H ∧ D.nx σ H) ∨ ((Itr lo n).go i H ∧ ∃ N : St → Hp → Prop, (∀ σ' H', N σ' H' → ∃ m', m' < m ∧ W (i + 1) m' σ' H') ∧ ∀ x H', (Itr lo n).yld i H x H' → g x σ H' fun σ2 H2 => tb { D with nx := N, ct := N, bk := D.nx } σ2 H2) := by
  refine ⟨fun i m σ H => m = n - i ∧ i ≤ n ∧ Pv i σ H, ⟨n, by simp, Nat.zero_le _, h0⟩, ?_⟩
  rintro i m σ H ⟨rfl, hi, p⟩
  by_cases hlt : i < n
  · refine .inr ⟨hlt, Pv (i + 1), fun σ' H' p' => ⟨n - (i + 1), by omega, rfl, hlt, p'⟩, fun x H' y => ?_⟩
    obtain ⟨e, y⟩ := y
    subst e y
    exact hs i σ _ hlt p
  · have e : i = n := by omega
    subst e
    exact .inl ⟨Nat.le_refl _, hd σ H p⟩
end L2

namespace L2
open PySem PySem.Spec PyProof.Rows

abbrev R2 := V → V → Hp → VK → Prop
/-- a two-place operation on values: f is binaryOp op, inplaceOp op or compareOp op -/
def OpR (X : Cx) (f : Value → Value → Sem Value) (r : R2) : Prop :=
  ∀ (pins : List (Addr × Obj)) (s : Shared) (σ : St) (H : Hp) (x y : V) (v u : Value) (Q : VK), Inv X pins σ H s → RelV x v → RelV y u → r x y H Q →
    wpAny (model X.prog X.w) X.A (f v u) (EP X pins σ Q) X.xe s
/-- a call of a value that is known (a builtin, a type) with values -/
def CallR (X : Cx) (f : Value) (r : List V → Hp → VK → Prop) : Prop :=
  ∀ (pins : List (Addr × Obj)) (s : Shared) (σ : St) (H : Hp) (xs : List V) (us : List Value) (Q : VK), Inv X pins σ H s → Vals xs us → r xs H Q →
    wpAny (model X.prog X.w) X.A (call f us) (EP X pins σ Q) X.xe s
/-- a value's truth -/
def TruR (X : Cx) (r : V → Hp → (Bool → Hp → Prop) → Prop) : Prop :=
  ∀ (pins : List (Addr × Obj)) (s : Shared) (σ : St) (H : Hp) (x : V) (v : Value) (Q : Bool → Hp → Prop), Inv X pins σ H s → RelV x v → r x H Q →
    wpAny (model X.prog X.w) X.A (truthy v) (TP X pins σ Q) X.xe s

def tOp (r : R2) (ta tb : TE) : TE := fun σ H Q => ta σ H fun x H1 => tb σ H1 fun y H2 => r x y H2 Q
/-- ints in, under C, and a value out -/
def rI (C : Int → Int → Prop) (g : Int → Int → V) : R2 := fun x y H Q => ∃ i j, x = .int i ∧ y = .int j ∧ C i j ∧ Q (g i j) H
def rI0 (g : Int → Int → V) : R2 := fun x y H Q => ∃ i j, x = .int i ∧ y = .int j ∧ Q (g i j) H

section
variable {X : Cx} {a b c : Expr} {ta tb tc : TE} {pos : Pos}

theorem binT (ha : PE X a ta) (hb : PE X b tb) {pins : List (Addr × Obj)} {s : Shared} {σ : St} {H : Hp} {R : V → V → Hp → Prop} (I : Inv X pins σ H s)
    (h : ta σ H fun x H1 => tb σ H1 fun y H2 => R x y H2) {Q : Value → Shared → Prop} {f : Value → Value → Sem Value}
    (hf : ∀ v u s2 x y H2, Inv X pins σ H2 s2 → RelV x v → RelV y u → R x y H2 → wpAny (model X.prog X.w) X.A (f v u) Q X.xe s2) :
    wpAny (model X.prog X.w) X.A (eval a X.env) (fun v s₁ => wpAny (model X.prog X.w) X.A (eval b X.env) (fun u s₂ => wpAny (model X.prog X.w) X.A (f v u) Q X.xe s₂) X.xe s₁) X.xe s := by
  refine thn (ha pins s σ H _ I h) fun v s1 ⟨x, H1, I1, r1, q1⟩ => ?_
  refine thn (hb pins s1 σ H1 _ I1 q1) fun u s2 ⟨y, H2, I2, r2, q2⟩ => ?_
  exact hf v u s2 x y H2 I2 r1 r2 q2

theorem pe_op {op : Operator} {r : R2} (ho : OpR X (binaryOp op) r) (ha : PE X a ta) (hb : PE X b tb) : PE X (.BinOp a op b pos) (tOp r ta tb) := by
  intro pins s σ H Q I h
  exact wpAny_BinOp (binT ha hb I h fun v u s2 x y H2 I2 rx ry q => ho pins s2 σ H2 x y v u Q I2 rx ry q)

/-! ### ints -/
theorem opI {f : Value → Value → Sem Value} {C : Int → Int → Prop} {g : Int → Int → Int}
    (rule : ∀ (i j : Int) (t u : Tok) (s : Shared) (Q : Value → Shared → Prop) (E : Value → Shared → Prop), C i j → Q (.int (g i j) s.toks) { s with toks := s.toks + 1 } → wpAny (model X.prog X.w) X.A (f (.int i t) (.int j u)) Q E s) :
    OpR X f (rI C fun i j => .int (g i j)) := by
  intro pins s σ H x y v u Q I rx ry h
  obtain ⟨i, j, rfl, rfl, hc, q⟩ := h
  obtain ⟨t, rfl⟩ := rx
  obtain ⟨t', rfl⟩ := ry
  exact rule i j t t' s _ _ hc ⟨.int (g i j), H, I.tok _, ⟨_, rfl⟩, q⟩
theorem opI0 {f : Value → Value → Sem Value} {g : Int → Int → Int}
    (rule : ∀ (i j : Int) (t u : Tok) (s : Shared) (Q : Value → Shared → Prop) (E : Value → Shared → Prop), Q (.int (g i j) s.toks) { s with toks := s.toks + 1 } → wpAny (model X.prog X.w) X.A (f (.int i t) (.int j u)) Q E s) :
    OpR X f (rI0 fun i j => .int (g i j)) := by
  intro pins s σ H x y v u Q I rx ry h
  obtain ⟨i, j, rfl, rfl, q⟩ := h
  obtain ⟨t, rfl⟩ := rx
  obtain ⟨t', rfl⟩ := ry
  exact rule i j t t' s _ _ ⟨.int (g i j), H, I.tok _, ⟨_, rfl⟩, q⟩
theorem opB0 {f : Value → Value → Sem Value} {g : Int → Int → Bool}
    (rule : ∀ (i j : Int) (t u : Tok) (s : Shared) (Q : Value → Shared → Prop) (E : Value → Shared → Prop), Q (.bool (g i j)) s → wpAny (model X.prog X.w) X.A (f (.int i t) (.int j u)) Q E s) :
    OpR X f (rI0 fun i j => .bl (g i j)) := by
  intro pins s σ H x y v u Q I rx ry h
  obtain ⟨i, j, rfl, rfl, q⟩ := h
  obtain ⟨t, rfl⟩ := rx
  obtain ⟨t', rfl⟩ := ry
  exact rule i j t t' s _ _ ⟨.bl (g i j), H, I, rfl, q⟩

def CDiv (i j : Int) : Prop := 0 < j ∧ j < 1073741824
def CPow (i j : Int) : Prop := 0 ≤ j ∧ j ≤ 1000000 ∧ i.natAbs < 2 ^ 64
def CMul (i j : Int) : Prop := (-(2 ^ 64) < i ∧ i < 2 ^ 64) ∨ (-(2 ^ 64) < j ∧ j < 2 ^ 64)
theorem CMul.ok {i j : Int} (h : CMul i j) : IntMulOk i j := by
  rcases h with ⟨h1, h2⟩ | ⟨h1, h2⟩
  · exact .of_left (intBits_le_64 h1 h2)
  · exact .of_right (intBits_le_64 h1 h2)

theorem op_add : OpR X (binaryOp .Add) (rI0 fun i j => .int (i + j)) := opI0 fun _ _ _ _ _ _ _ q => add_int q
theorem op_sub : OpR X (binaryOp .Sub) (rI0 fun i j => .int (i - j)) := opI0 fun _ _ _ _ _ _ _ q => sub_int q
theorem op_mul : OpR X (binaryOp .Mult) (rI CMul fun i j => .int (i * j)) := opI fun _ _ _ _ _ _ _ hc q => mul_int q hc.ok
/-- // by a positive divisor -/
theorem op_fdiv : OpR X (binaryOp .FloorDiv) (rI CDiv fun i j => .int (i / j)) := opI fun i j _ _ _ _ _ hc q => by
  have h1 : (0 : Int) < j := hc.1
  have h2 : j < 1073741824 := hc.2
  exact floordiv_int (by omega) (by rw [Int.fdiv_eq_ediv_of_nonneg i (by omega)]; exact q) (.inl (PyProof.noPylong_small (by omega)))
/-- % by a positive divisor of any size -/
theorem op_mod : OpR X (binaryOp .Mod) (rI (fun _ j => 0 < j) fun i j => .int (i % j)) := opI fun i j _ _ _ _ _ hc q => by
  have h1 : (0 : Int) < j := hc
  exact mod_int' (by omega) (by rw [Int.fmod_eq_emod_of_nonneg i (by omega)]; exact q)
theorem op_pow : OpR X (binaryOp .Pow) (rI CPow fun i j => .int (i ^ j.toNat)) := opI fun _ _ _ _ _ _ _ hc q => pow_int_small hc.1 hc.2.1 hc.2.2 q



/-! ### bools among ints: n += (a < b) -/
end

/-! ### comparisons -/
/-- the scalars that == tells apart as data does -/
def scal : V → V → Bool
  | .non, .non => true | .non, .int _ => true | .int _, .non => true | .non, .bl _ => true | .bl _, .non => true | .non, .str _ => true | .str _, .non => true
  | .int _, .int _ => true | .bl _, .bl _ => true | .str _, .str _ => true | .byt _, .byt _ => true
  | .int _, .str _ => true | .str _, .int _ => true | .bl _, .str _ => true | .str _, .bl _ => true
  | _, _ => false
def rEq : R2 := fun x y H Q => scal x y = true ∧ Q (.bl (decide (x = y))) H
def rNe : R2 := fun x y H Q => scal x y = true ∧ Q (.bl (!decide (x = y))) H

theorem dec_int {i j : Int} : decide (V.int i = V.int j) = (i == j) := by
  rw [Bool.eq_iff_iff]
  simp
theorem dec_bl {i j : Bool} : decide (V.bl i = V.bl j) = (i == j) := by
  rw [Bool.eq_iff_iff]
  simp
theorem dec_str {i j : Str} : decide (V.str i = V.str j) = (i == j) := by
  rw [Bool.eq_iff_iff]
  simp
theorem dec_byt {i j : Array UInt8} : decide (V.byt i = V.byt j) = (i.toList == j.toList) := by
  rw [Bool.eq_iff_iff]
  cases i
  cases j
  simp

section
variable {X : Cx} {a b c : Expr} {ta tb tc : TE} {pos : Pos}
theorem fin_bl {pins : List (Addr × Obj)} {σ : St} {H : Hp} {s : Shared} {Q : VK} {k k' : Bool} (I : Inv X pins σ H s) (q : Q (.bl k) H) (e : k = k') : EP X pins σ Q (.bool k') s := by
  subst e
  exact ⟨.bl k, H, I, rfl, q⟩
theorem op_eq : OpR X (compareOp .Eq) rEq := by
  intro pins s σ H x y v u Q I rx ry h
  obtain ⟨hs, q⟩ := h
  cases x with
  | non =>
    cases rx
    cases y with
    | non => cases ry; exact PySem.EqNone.eq_none_none (fin_bl I q (by simp))
    | bl j => cases ry; exact PySem.EqNone.eq_none_bool (fin_bl I q (by simp))
    | int j => obtain ⟨t', rfl⟩ := ry; exact PySem.EqNone.eq_none_int (fin_bl I q (by simp))
    | str j => obtain ⟨t', rfl⟩ := ry; exact PySem.EqNone.eq_none_str (fin_bl I q (by simp))
    | _ => exact absurd (show false = true from hs) Bool.false_ne_true
  | bl i =>
    cases rx
    cases y with
    | non => cases ry; exact PySem.EqNone.eq_bool_none (fin_bl I q (by simp))
    | bl j => cases ry; exact eq_bool (fin_bl I q dec_bl)
    | str j => obtain ⟨t', rfl⟩ := ry; exact PySem.EqMixed.eq_bool_str (fin_bl I q (by simp))
    | _ => exact absurd (show false = true from hs) Bool.false_ne_true
  | int i =>
    obtain ⟨t, rfl⟩ := rx
    cases y with
    | non => cases ry; exact PySem.EqNone.eq_int_none (fin_bl I q (by simp))
    | int j => obtain ⟨t', rfl⟩ := ry; exact eq_int (fin_bl I q dec_int)
    | str j => obtain ⟨t', rfl⟩ := ry; exact PySem.EqMixed.eq_int_str (fin_bl I q (by simp))
    | _ => exact absurd (show false = true from hs) Bool.false_ne_true
  | str i =>
    obtain ⟨t, rfl⟩ := rx
    cases y with
    | non => cases ry; exact PySem.EqNone.eq_str_none (fin_bl I q (by simp))
    | bl j => cases ry; exact PySem.EqMixed.eq_str_bool (fin_bl I q (by simp))
    | int j => obtain ⟨t', rfl⟩ := ry; exact PySem.EqMixed.eq_str_int (fin_bl I q (by simp))
    | str j => obtain ⟨t', rfl⟩ := ry; exact eq_str (fin_bl I q dec_str)
    | _ => exact absurd (show false = true from hs) Bool.false_ne_true
  | byt i =>
    obtain ⟨t, rfl⟩ := rx
    cases y with
    | byt j => obtain ⟨t', rfl⟩ := ry; exact PySem.W.eq_bytes (fin_bl I q dec_byt)
    | _ => exact absurd (show false = true from hs) Bool.false_ne_true
  | _ => cases y <;> exact absurd (show false = true from hs) Bool.false_ne_true
theorem op_ne : OpR X (compareOp .NotEq) rNe := by
  intro pins s σ H x y v u Q I rx ry h
  obtain ⟨hs, q⟩ := h
  cases x with
  | non =>
    cases rx
    cases y with
    | non => cases ry; exact PySem.EqNone.ne_none_none (fin_bl I q (by simp))
    | bl j => cases ry; exact PySem.EqNone.ne_none_bool (fin_bl I q (by simp))
    | int j => obtain ⟨t', rfl⟩ := ry; exact PySem.EqNone.ne_none_int (fin_bl I q (by simp))
    | str j => obtain ⟨t', rfl⟩ := ry; exact PySem.EqNone.ne_none_str (fin_bl I q (by simp))
    | _ => exact absurd (show false = true from hs) Bool.false_ne_true
  | bl i =>
    cases rx
    cases y with
    | non => cases ry; exact PySem.EqNone.ne_bool_none (fin_bl I q (by simp))
    | bl j => cases ry; exact ne_bool (fin_bl I q (congrArg not dec_bl))
    | str j => obtain ⟨t', rfl⟩ := ry; exact PySem.EqMixed.ne_bool_str (fin_bl I q (by simp))
    | _ => exact absurd (show false = true from hs) Bool.false_ne_true
  | int i =>
    obtain ⟨t, rfl⟩ := rx
    cases y with
    | non => cases ry; exact PySem.EqNone.ne_int_none (fin_bl I q (by simp))
    | int j => obtain ⟨t', rfl⟩ := ry; exact ne_int (fin_bl I q (congrArg not dec_int))
    | str j => obtain ⟨t', rfl⟩ := ry; exact PySem.EqMixed.ne_int_str (fin_bl I q (by simp))
    | _ => exact absurd (show false = true from hs) Bool.false_ne_true
  | str i =>
    obtain ⟨t, rfl⟩ := rx
    cases y with
    | non => cases ry; exact PySem.EqNone.ne_str_none (fin_bl I q (by simp))
    | bl j => cases ry; exact PySem.EqMixed.ne_str_bool (fin_bl I q (by simp))
    | int j => obtain ⟨t', rfl⟩ := ry; exact PySem.EqMixed.ne_str_int (fin_bl I q (by simp))
    | str j => obtain ⟨t', rfl⟩ := ry; exact ne_str (fin_bl I q (congrArg not dec_str))
    | _ => exact absurd (show false = true from hs) Bool.false_ne_true
  | byt i =>
    obtain ⟨t, rfl⟩ := rx
    cases y with
    | byt j => obtain ⟨t', rfl⟩ := ry; exact PySem.W.ne_bytes (fin_bl I q (congrArg not dec_byt))
    | _ => exact absurd (show false = true from hs) Bool.false_ne_true
  | _ => cases y <;> exact absurd (show false = true from hs) Bool.false_ne_true

theorem op_lt : OpR X (compareOp .Lt) (rI0 fun i j => .bl (decide (i < j))) := opB0 fun _ _ _ _ _ _ _ q => lt_int q
theorem op_le : OpR X (compareOp .LtE) (rI0 fun i j => .bl (decide (i ≤ j))) := opB0 fun _ _ _ _ _ _ _ q => le_int q
theorem op_gt : OpR X (compareOp .Gt) (rI0 fun i j => .bl (decide (j < i))) := opB0 fun _ _ _ _ _ _ _ q => gt_int q




theorem nomark (b : Expr) {op : CmpOp} (h : op ≠ .In := by decide) (h2 : op ≠ .NotIn := by decide) : behindInMarks op b = false := by
  have e1 : (op == CmpOp.In) = false := by cases op <;> first | rfl | exact absurd rfl h
  have e2 : (op == CmpOp.NotIn) = false := by cases op <;> first | rfl | exact absurd rfl h2
  cases b <;> simp [behindInMarks, e1, e2]
/-- a comparison as a value; hm: nomark b, or (for in, not in) by with_unfolding_all rfl -/
theorem pe_cmpR {op : CmpOp} {r : R2} (ho : OpR X (compareOp op) r) (ha : PE X a ta) (hb : PE X b tb) (hm : behindInMarks op b = false) : PE X (.Compare a [op] [b] pos) (tOp r ta tb) := by
  intro pins s σ H Q I h
  exact wpAny_Compare1 (binT ha hb I h fun v u s2 x y H2 I2 rx ry q => ho pins s2 σ H2 x y v u Q I2 rx ry q) hm
/-- a reading of a value as a test -/
def tTest (t : TE) : TT := fun σ H Q => t σ H fun x H' => ∃ k, x = .bl k ∧ Q k H'
theorem pt_cmpR {op : CmpOp} {r : R2} (ho : OpR X (compareOp op) r) (ha : PE X a ta) (hb : PE X b tb) (hm : behindInMarks op b = false) : PT X (.Compare a [op] [b] pos) (tTest (tOp r ta tb)) := by
  intro pins s σ H Q I h
  refine wpAny_isTrue_Compare1 (thn (ha pins s σ H _ I h) fun v s1 ⟨x, H1, I1, r1, q1⟩ => thn (hb pins s1 σ H1 _ I1 q1) fun u s2 ⟨y, H2, I2, r2, q2⟩ =>
    thn (ho pins s2 σ H2 x y v u _ I2 r1 r2 q2) fun c s3 ⟨z, H3, I3, r3, k, e, q3⟩ => ?_) hm
  subst e
  cases r3
  exact wpAny_truthy_bool ⟨H3, I3, q3⟩
/-- a op1 b op2 c -/
def tChain (r r' : R2) (ta tb tc : TE) : TE := fun σ H Q => ta σ H fun x H1 => tb σ H1 fun y H2 => r x y H2 fun z H3 => ∃ k, z = .bl k ∧
  (if k = true then tc σ H3 fun w' H4 => r' y w' H4 Q else Q (.bl false) H3)
theorem pe_chain {op op' : CmpOp} {r r' : R2} (ho : OpR X (compareOp op) r) (ho' : OpR X (compareOp op') r') (ha : PE X a ta) (hb : PE X b tb) (hc : PE X c tc)
    (hm : lastMarks [op, op'] [b, c] = false := by with_unfolding_all rfl) : PE X (.Compare a [op, op'] [b, c] pos) (tChain r r' ta tb tc) := by
  intro pins s σ H Q I h
  refine Compare_chain (thn (ha pins s σ H _ I h) fun v s1 ⟨x, H1, I1, r1, q1⟩ => chain_link (thn (hb pins s1 σ H1 _ I1 q1) fun u s2 ⟨y, H2, I2, r2, q2⟩ =>
    thn (ho pins s2 σ H2 x y v u _ I2 r1 r2 q2) fun d s3 ⟨z, H3, I3, r3, k, e, q3⟩ => ?_)) hm
  subst e
  cases r3
  refine wpAny_truthy_bool ?_
  cases k with
  | false => exact ite_ff ⟨.bl false, H3, I3, rfl, q3⟩
  | true => exact ite_tt (chain_last (thn (hc pins s3 σ H3 _ I3 q3) fun w' s4 ⟨z', H4, I4, r4, q4⟩ => ho' pins s4 σ H4 y z' u w' Q I4 r2 r4 q4))
theorem pt_chain {op op' : CmpOp} {r r' : R2} (ho : OpR X (compareOp op) r) (ho' : OpR X (compareOp op') r') (ha : PE X a ta) (hb : PE X b tb) (hc : PE X c tc)
    (hm : lastMarks [op, op'] [b, c] = false := by with_unfolding_all rfl) : PT X (.Compare a [op, op'] [b, c] pos) (tTest (tChain r r' ta tb tc)) := by
  intro pins s σ H Q I h
  refine isTrue_chain (thn (ha pins s σ H _ I h) fun v s1 ⟨x, H1, I1, r1, q1⟩ => test_link (thn (hb pins s1 σ H1 _ I1 q1) fun u s2 ⟨y, H2, I2, r2, q2⟩ =>
    thn (ho pins s2 σ H2 x y v u _ I2 r1 r2 q2) fun d s3 ⟨z, H3, I3, r3, k, e, q3⟩ => ?_)) hm
  subst e
  cases r3
  refine wpAny_truthy_bool ?_
  cases k with
  | false =>
    obtain ⟨k', e', q'⟩ := q3
    cases e'
    exact ite_ff ⟨H3, I3, q'⟩
  | true =>
    refine ite_tt (test_last (thn (hc pins s3 σ H3 _ I3 q3) fun w' s4 ⟨z', H4, I4, r4, q4⟩ => thn (ho' pins s4 σ H4 y z' u w' _ I4 r2 r4 q4) fun d' s5 ⟨z2, H5, I5, r5, k2, e2, q5⟩ => ?_))
    subst e2
    cases r5
    exact wpAny_truthy_bool ⟨H5, I5, q5⟩

/-! ### truth -/
/-- a value's truth by the abstract heap -/
def TruV (K : PySem.W.Frag) (x : V) (H : Hp) (k : Bool) : Prop :=
  match x with
  | .non => k = false
  | .bl b => k = b
  | .int i => k = (i != 0)
  | .str y => y.length ≤ sizeLine ∧ k = ((y.length : Int) != 0)
  | .byt y => y.size ≤ sizeLine ∧ k = ((y.size : Int) != 0)
  | .ref p => (∃ xs, SqL K H p xs ∧ k = !xs.isEmpty) ∨ (∃ xs, SqT K H p xs ∧ k = !xs.isEmpty) ∨ ∃ kvs, H p = some (.dK kvs) ∧ k = !kvs.isEmpty
  | _ => False
theorem isEmpty_kv {κ : Type} {kvs : List (κ × V)} {vs : List (κ × Value)} (r : KV kvs vs) : (!vs.isEmpty) = !kvs.isEmpty := by
  cases r <;> rfl
theorem isEmpty_of {xs : List V} {its : List Value} (r : Vals xs its) : (!its.toArray.isEmpty) = !xs.isEmpty := by
  cases r <;> simp
theorem line63 : (sizeLine : Nat) < 2 ^ 63 := by rw [sizeLine_eq]; decide
theorem tru_ok : TruR X (fun x H Q => ∃ k, TruV X.K x H k ∧ Q k H) := by
  intro pins s σ H x v Q I rx h
  obtain ⟨k, e, q⟩ := h
  have hl := line63
  have hs : sizeLine = 16777216 := sizeLine_eq
  cases x with
  | non =>
    cases rx
    have e' : k = false := e
    subst e'
    exact truthy_none ⟨H, I, q⟩
  | bl b =>
    cases rx
    have e' : k = b := e
    subst e'
    exact wpAny_truthy_bool ⟨H, I, q⟩
  | int i =>
    obtain ⟨t, rfl⟩ := rx
    have e' : k = (i != 0) := e
    subst e'
    exact PySem.P.truthy_int ⟨H, I, q⟩
  | str y =>
    obtain ⟨t, rfl⟩ := rx
    obtain ⟨hy, e'⟩ : y.length ≤ sizeLine ∧ k = ((y.length : Int) != 0) := e
    subst e'
    exact PySem.P.truthy_str (by omega) ⟨H, I.tok _, q⟩
  | byt y =>
    obtain ⟨t, rfl⟩ := rx
    obtain ⟨hy, e'⟩ : y.size ≤ sizeLine ∧ k = ((y.size : Int) != 0) := e
    subst e'
    exact PySem.W.truthy_bytes (by omega) ⟨H, I.tok _, q⟩
  | ref p =>
    cases rx
    have e' : (∃ xs, SqL X.K H p xs ∧ k = !xs.isEmpty) ∨ (∃ xs, SqT X.K H p xs ∧ k = !xs.isEmpty) ∨ ∃ kvs, H p = some (.dK kvs) ∧ k = !kvs.isEmpty := e
    rcases e' with ⟨xs, hx, e'⟩ | ⟨xs, hx, e'⟩ | ⟨kvs, hx, e'⟩
    · subst e'
      obtain ⟨its, r, pl, hz⟩ := I.list hx
      have hlen := r.length
      exact wpAny_truthy_list pl.isList (by simp only [List.size_toArray]; omega) ⟨H, I.tok _, by rw [isEmpty_of r]; exact q⟩
    · subst e'
      obtain ⟨its, r, pl, hz⟩ := I.tuple hx
      have hlen := r.length
      exact truthy_tuple pl (by simp only [List.size_toArray]; omega) ⟨H, I.tok _, by rw [isEmpty_of r]; exact q⟩
    · subst e'
      obtain ⟨hz, hS, vs, r, m⟩ : kvs.length ≤ sizeLine ∧ (p == sysModules) = false ∧ ∃ vs, KV kvs vs ∧ s.heap.DictOf (mixKind X.prog X.w) p vs := I.hok p _ hx
      have hlen : kvs.length = vs.length := Paired.length r
      exact wpAny_truthy_dict hS m (by omega) ⟨H, I.tok _, by rw [isEmpty_kv r]; exact q⟩
  | _ => exact (show False from e).elim
/-- any expression whose test is its value's truth (a name, a call, a subscript, a field ..: he by fun _ => rfl) -/
theorem pt_truth (ha : PE X a ta) (he : ∀ whole, isTrue a X.env whole = (do let v ← whole; standAt a.pos; holding [v] (truthy v))) :
    PT X a (fun σ H Q => ta σ H fun x H' => ∃ k, TruV X.K x H' k ∧ Q k H') := by
  intro pins s σ H Q I h
  exact isTrue_plain (thn (ha pins s σ H _ I h) fun v s1 ⟨x, H1, I1, r1, q1⟩ => tru_ok pins s1 σ H1 x v Q I1 r1 q1) (he _)

/-! ### strs and bytes -/
theorem op_add_str : OpR X (binaryOp .Add) (fun x y H Q => ∃ i j, x = .str i ∧ y = .str j ∧ i.length + j.length ≤ sizeLine ∧ Q (.str (i ++ j)) H) := by
  intro pins s σ H x y v u Q I rx ry h
  obtain ⟨i, j, rfl, rfl, hz, q⟩ := h
  obtain ⟨t, rfl⟩ := rx
  obtain ⟨t', rfl⟩ := ry
  exact add_str (fun t' tk => ⟨.str (i ++ j), H, I.tok _, ⟨_, rfl⟩, q⟩) hz


/-! ### scalar builtins, by CallR -/
theorem vals1 {x : V} {us : List Value} (r : Vals [x] us) : ∃ u, us = [u] ∧ RelV x u := by
  cases r with
  | cons r1 r2 => cases r2; exact ⟨_, rfl, r1⟩
theorem vals2 {x y : V} {us : List Value} (r : Vals [x, y] us) : ∃ u w', us = [u, w'] ∧ RelV x u ∧ RelV y w' := by
  cases r with
  | cons r1 r2 =>
    cases r2 with
    | cons r3 r4 => cases r4; exact ⟨_, _, rfl, r1, r3⟩
theorem call_abs : CallR X (.builtin "abs") (fun xs H Q => ∃ i, xs = [.int i] ∧ Q (.int (if i < 0 then -i else i)) H) := by
  intro pins s σ H xs us Q I r h
  obtain ⟨i, rfl, q⟩ := h
  obtain ⟨u, rfl, t, rfl⟩ := vals1 r
  exact call_abs_int fun u tk => ⟨.int (if i < 0 then -i else i), H, I.tok _, ⟨_, rfl⟩, q⟩
theorem call_max2 (hc : X.calm = true) : CallR X (.builtin "max") (fun xs H Q => ∃ i j, xs = [.int i, .int j] ∧ Q (.int (if j > i then j else i)) H) := by
  intro pins s σ H xs us Q I r h
  obtain ⟨i, j, rfl, q⟩ := h
  obtain ⟨u, w', rfl, ⟨t, rfl⟩, ⟨t', rfl⟩⟩ := vals2 r
  refine max_two_ints (I.ok.hd hc) fun h' tk k => ⟨_, H, I.kept k, ?_, q⟩
  by_cases hj : j > i
  · rw [if_pos hj, if_pos hj]; exact ⟨_, rfl⟩
  · rw [if_neg hj, if_neg hj]; exact ⟨_, rfl⟩
theorem call_min2 (hc : X.calm = true) : CallR X (.builtin "min") (fun xs H Q => ∃ i j, xs = [.int i, .int j] ∧ Q (.int (if j < i then j else i)) H) := by
  intro pins s σ H xs us Q I r h
  obtain ⟨i, j, rfl, q⟩ := h
  obtain ⟨u, w', rfl, ⟨t, rfl⟩, ⟨t', rfl⟩⟩ := vals2 r
  refine min_two_ints (I.ok.hd hc) fun h' tk k => ⟨_, H, I.kept k, ?_, q⟩
  by_cases hj : j < i
  · rw [if_pos hj, if_pos hj]; exact ⟨_, rfl⟩
  · rw [if_neg hj, if_neg hj]; exact ⟨_, rfl⟩
end
end L2

namespace L2
open PySem PySem.Spec PyProof.Rows

/-! ### an instance, its attributes a map -/
structure ObjM (h : Heap) (x dx C : Addr) (mA : Str → Option Value) : Prop where
  obj : h.get? x = some (PySem.W.instObj C dx)
  ns : h.Ns1 dx mA
  ne : dx ≠ x

theorem lookIn_ns {h : Heap} {dx : Addr} {mA : Str → Option Value} (n : h.Ns1 dx mA) : ∃ od, h.get? dx = some od ∧ ∀ name, PySem.W.lookIn name od = some (mA name) := by
  obtain ⟨o, es, ep, ho, hd, hk, _, hm⟩ := n
  refine ⟨o, ho, fun name => ?_⟩
  have e := hm name
  unfold nsFind findBy at e
  rw [← Array.find?_toList] at e
  unfold PySem.W.lookIn
  rw [hd]
  dsimp only
  split
  · rename_i y q
    rw [q] at e
    exact congrArg some e
  · rename_i q
    rw [q] at e
    have a : es.toList.any (·.refKey) = false := by
      rw [List.any_eq_false]
      intro y hy
      obtain ⟨z, t, hkey⟩ := hk y (Array.mem_toList_iff.mp hy)
      simp [DictEntry.refKey, hkey]
    have a' : ¬ es.toList.any (·.refKey) = true := by rw [a]; exact Bool.false_ne_true
    rw [if_neg a']
    exact congrArg some e

theorem ObjM.look {h : Heap} {x dx C : Addr} {mA : Str → Option Value} (I : ObjM h x dx C mA) : ∃ od, PySem.W.InstAt h x (PySem.W.instObj C dx) C (some od) ∧ ∀ name, PySem.W.lookIn name od = some (mA name) :=
  let ⟨od, ho, hl⟩ := lookIn_ns I.ns
  ⟨od, ⟨I.obj, rfl, rfl, ho⟩, hl⟩

section
variable {prog : Program} {w : World} {A : Around} {E : Value → Shared → Prop} {s : Shared} {K : PySem.W.Frag} {x dx C f : Addr} {mA : Str → Option Value} {name : Str} {v : Value}

theorem get_map {expr : Bool} {Q : Value → Shared → Prop} (X : K.In s.heap) (I : ObjM s.heap x dx C mA) (hg : PySem.W.plainGet K C name = true) (hh : PySem.W.hasDictIn K C = true)
    (ha : PySem.W.findIn K (.ref C) name = some none) (hv : mA name = some v) (hv' : PySem.W.handedIn v = true) (h : Q v { s with toks := s.toks + 1 }) :
    wpAny (model prog w) A (getAttr (.ref x) name expr) Q E s := by
  obtain ⟨od, J, hl⟩ := I.look
  exact PySem.W.get_value X J (PySem.W.plainGet_of hg).1 (PySem.W.findObj_own hh ha rfl (by rw [hl, hv])) hv' h


theorem get_meth {pl : Sem Bool} {Q : Value × List Value → Shared → Prop} (X : K.In s.heap) (I : ObjM s.heap x dx C mA) (hg : PySem.W.plainGet K C name = true)
    (hf : PySem.W.findIn K (.ref C) name = some (some (.ref f))) (ht : PySem.W.isFn K (.ref f) = true) (hv : mA name = none) (h : Q (.ref f, [.ref x]) s) :
    wpAny (model prog w) A (getMethod (.ref x) name pl) Q E s := by
  obtain ⟨od, J, hl⟩ := I.look
  exact PySem.W.method_fn X J (PySem.W.plainGet_of hg).1 (PySem.W.plainGet_of hg).2 hf (beq_iff_eq.mp ht) (by show (PySem.W.lookIn name od).map (·.isSome) = some false; rw [hl, hv]; rfl) h

theorem set_map {ns : List Str} {Q : Unit → Shared → Prop} (X : K.In s.heap) (I : ObjM s.heap x dx C mA)
    (hs : PySem.W.findIn K (.ref C) "__setattr__" = some (some (.builtin "object.__setattr__"))) (hp : PySem.W.plainOver K C = true) (ht : PySem.W.takerIn K C name = some none) (hh : PySem.W.hasDictIn K C = true)
    (hw : PySem.Within mA ns) (hsz : ns.length ≤ sizeLine)
    (h : ∀ h', ObjM h' x dx C (fun y => if y = name then some v else mA y) → Heap.SameBut dx s.heap h' → Q () { s with heap := h', toks := s.toks + 2 }) :
    wpAny (model prog w) A (setAttr (.ref x) name v) Q E s := by
  obtain ⟨od, J, hl⟩ := I.look
  refine PySem.W.set_plain X J hs (PySem.W.osa_open (s := { s with toks := s.toks + 1 }) (r := none) X J hp ht fun b => ?_)
  obtain ⟨cd, hc, hd'⟩ := PySem.W.any_some hh
  have hx : s.heap.get? x = some ⟨.ref C, some dx, .plain, #[]⟩ := I.obj
  refine wpAny_bind (wpAny_pure (wpAny_bind (wpAny_bind (wpAny_loadPart hx (wpAny_bind (PySem.W.Looks.here (s := { s with toks := s.toks + 1 }) (PySem.W.looks_clsIn X hc) ?_))))))
  rw [hd']
  refine wpAny_pure (a := some dx) (wpAny_bind (wpAny_pure (wpAny_bind ?_)))
  refine wpAny_nsSet1 (s := { s with toks := s.toks + 1 }) I.ns fun h' hn2 hs2 => ?_
  obtain ⟨oD, esD, epD, hoD, hdD, hcD⟩ := hn2.count (PySem.Within.cons name v hw)
  refine wpAny_bind (wpAny_lookBehind hoD (by rw [hdD]; exact pastItsLine_dict (Nat.le_trans hcD (by rw [List.length_cons]; omega))) ?_)
  exact wpAny_pure (h _ ⟨(hs2.2 _ (Ne.symm I.ne)).trans I.obj, hn2, I.ne⟩ hs2)

/-- C(..): the dict at the heap's end, the instance behind it; then its __init__ -/
theorem make_map {R : Result → Shared → Prop} {vs : List Value} {kw : List (Str × Value)} (X : K.In s.heap) (hm : PySem.W.makesIn K C = true)
    (hi : PySem.W.findIn K (.ref C) "__init__" = some (some (.ref f))) (hf : PySem.W.typeIn K (.ref f) = some (.type "function"))
    (h : codeAny (model prog w) (A.under (.builtin "type.__call__" ⟨.ref C :: vs, kw⟩)) (.call (.ref f) ⟨.ref (s.heap.objs.size + 1) :: vs, kw⟩) (PySem.W.InitBack (s.heap.objs.size + 1) R)
      { s with heap := (s.heap.push PySem.W.emptyDict).push (PySem.W.instObj C s.heap.objs.size) }) :
    codeAny (model prog w) A (.call (.ref C) ⟨vs, kw⟩) R s := by
  obtain ⟨hh, g, d, t, os⟩ := s
  exact PySem.W.make_core (PySem.W.makes_of X hm) (PySem.W.looks_findIn X hi) (fun self => PySem.W.bind_fn X self hf) (.inl rfl) h
end

/-! ### the attributes as a list of pairs -/
def putF (f : Str) (v : V) : List (Str × V) → List (Str × V)
  | [] => [(f, v)]
  | (g, x) :: r => if g = f then (g, v) :: r else (g, x) :: putF f v r
theorem lookup_putF (f g : Str) (v : V) : ∀ fs : List (Str × V), (putF f v fs).lookup g = if g = f then some v else fs.lookup g
  | [] => by
    show List.lookup g [(f, v)] = _
    by_cases h : g = f
    · have hb : (g == f) = true := beq_iff_eq.mpr h
      simp only [List.lookup, hb, if_pos h]
    · have hb : (g == f) = false := beq_eq_false_iff_ne.mpr h
      simp only [List.lookup, hb, if_neg h]
  | (k, x) :: r => by
    have ih := lookup_putF f g v r
    rw [show putF f v ((k, x) :: r) = (if k = f then (k, v) :: r else (k, x) :: putF f v r) from rfl]
    by_cases hk : k = f
    · rw [if_pos hk]
      by_cases h : g = k
      · have hb : (g == k) = true := beq_iff_eq.mpr h
        simp only [List.lookup, hb, if_pos (h.trans hk)]
      · have hb : (g == k) = false := beq_eq_false_iff_ne.mpr h
        simp only [List.lookup, hb, if_neg (fun e : g = f => h (e.trans hk.symm))]
    · rw [if_neg hk]
      by_cases h : g = k
      · have hb : (g == k) = true := beq_iff_eq.mpr h
        simp only [List.lookup, hb, if_neg (fun e : g = f => hk (h.symm.trans e))]
      · have hb : (g == k) = false := beq_eq_false_iff_ne.mpr h
        simp only [List.lookup, hb]
        exact ih
theorem keys_putF (f : Str) (v : V) : ∀ fs : List (Str × V), f ∈ (putF f v fs).map (·.1) ∧ ∀ g, g ∈ fs.map (·.1) → g ∈ (putF f v fs).map (·.1)
  | [] => ⟨by simp [putF], fun g h => by simp at h⟩
  | (k, x) :: r => by
    obtain ⟨i1, i2⟩ := keys_putF f v r
    rw [show putF f v ((k, x) :: r) = (if k = f then (k, v) :: r else (k, x) :: putF f v r) from rfl]
    by_cases hk : k = f
    · rw [if_pos hk]
      subst hk
      exact ⟨by simp, fun g h => by simpa using h⟩
    · rw [if_neg hk]
      refine ⟨?_, fun g h => ?_⟩
      · rw [List.map_cons]
        exact List.mem_cons_of_mem _ i1
      · rw [List.map_cons] at h ⊢
        rcases List.mem_cons.mp h with e | e
        · exact List.mem_cons.mpr (.inl e)
        · exact List.mem_cons_of_mem _ (i2 g e)
theorem length_putF (f : Str) (v : V) : ∀ fs : List (Str × V), (putF f v fs).length ≤ fs.length + 1
  | [] => by simp [putF]
  | (k, x) :: r => by
    have ih := length_putF f v r
    rw [show putF f v ((k, x) :: r) = (if k = f then (k, v) :: r else (k, x) :: putF f v r) from rfl]
    by_cases hk : k = f
    · rw [if_pos hk, List.length_cons, List.length_cons]; omega
    · rw [if_neg hk, List.length_cons, List.length_cons]; omega

theorem RelO.some_of {v : V} {o : Option Value} (r : RelO (some v) o) : ∃ u, o = some u ∧ RelV v u := by
  cases o with
  | none => exact (show False from r).elim
  | some u => exact ⟨u, rfl, r⟩
theorem RelO.none_of {o : Option Value} (r : RelO none o) : o = none := by
  cases o with
  | none => rfl
  | some u => exact (show False from r).elim
theorem handed_of {v : V} {u : Value} (r : RelV v u) : PySem.W.handedIn u = true := by
  cases v with
  | non => cases (show u = Value.none from r); rfl
  | bl b => cases (show u = Value.bool b from r); rfl
  | int i => obtain ⟨t, e⟩ := (show ∃ t, u = Value.int i t from r); cases e; rfl
  | str x => obtain ⟨t, e⟩ := (show ∃ t, u = Value.str x t from r); cases e; rfl
  | byt b => obtain ⟨t, e⟩ := (show ∃ t, u = Value.bytes b t from r); cases e; rfl
  | flt b => obtain ⟨t, e⟩ := (show ∃ t, u = Value.float b t from r); cases e; rfl
  | ref a => cases (show u = Value.ref a from r); rfl
  | ty n => cases (show u = Value.type n from r); rfl

section
variable {P : Program} {w : World} {H H' : Hp} {h h' : Heap} {a C dx : Addr} {fs fs' : List (Str × V)}
theorem ins_get (hok : HOk P w H h) (e : H a = some (.ins C dx fs)) : ∃ mA, ObjM h a dx C mA ∧ (∀ f, RelO (fs.lookup f) (mA f)) ∧ PySem.Within mA (fs.map (·.1)) ∧ fs.length ≤ 1000 ∧ H dx = some (.own a) := by
  obtain ⟨d, z, ne, ob, mA, n, r, q⟩ := (show ObjOk P w H h a (.ins C dx fs) from hok a _ e)
  exact ⟨mA, ⟨ob, n, ne⟩, r, q, z, d⟩
end

/-! ### what of the text a class must have -/
structure Cls (K : PySem.W.Frag) (C : Addr) : Prop where
  pg : PySem.W.plainGet K C Str.empty = true
  hd : PySem.W.hasDictIn K C = true
  po : PySem.W.plainOver K C = true
  sa : PySem.W.findIn K (.ref C) "__setattr__" = some (some (.builtin "object.__setattr__"))
theorem Cls.get {K : PySem.W.Frag} {C : Addr} (c : Cls K C) (f : Str) : PySem.W.plainGet K C f = true := c.pg
/-- no class of it has the name -/
def NoAttr (K : PySem.W.Frag) (C : Addr) (f : Str) : Prop := PySem.W.findIn K (.ref C) f = some none
theorem NoAttr.taker {K : PySem.W.Frag} {C : Addr} {f : Str} (n : NoAttr K C f) : PySem.W.takerIn K C f = some none := by
  unfold PySem.W.takerIn
  rw [show PySem.W.findIn K (.ref C) f = some none from n]
  rfl
/-- a method: a plain def of the class or of one above it -/
structure Meth (K : PySem.W.Frag) (C : Addr) (m : Str) (f : Addr) : Prop where
  at_ : PySem.W.findIn K (.ref C) m = some (some (.ref f))
  fn : PySem.W.isFn K (.ref f) = true
  kp : PySem.W.keepIn K (.ref f) = true

section
variable {X : Cx} {pins : List (Addr × Obj)} {σ : St} {H : Hp} {s : Shared} {a C dx : Addr} {fs : List (Str × V)} {f : Str} {v : V} {A : Around} {E : Value → Shared → Prop}

theorem getattr_ok {b : Bool} {Q : Value → Shared → Prop} (I : Inv X pins σ H s) (e : H a = some (.ins C dx fs)) (c : Cls X.K C) (n : NoAttr X.K C f) (l : fs.lookup f = some v)
    (h : ∀ u s', Inv X pins σ H s' → RelV v u → Q u s') : wpAny (model X.prog X.w) A (getAttr (.ref a) f b) Q E s := by
  obtain ⟨mA, O, r, _, _, _⟩ := ins_get I.hok e
  obtain ⟨u, hu, ru⟩ := RelO.some_of (v := v) (o := mA f) (by rw [← l]; exact r f)
  exact get_map I.kIn O (c.get f) c.hd n hu (handed_of ru) (h u _ (I.tok _) ru)


theorem getmeth_ok {m : Str} {g : Addr} {pl : Sem Bool} {Q : Value × List Value → Shared → Prop} (I : Inv X pins σ H s) (e : H a = some (.ins C dx fs)) (c : Cls X.K C) (k : Meth X.K C m g) (l : fs.lookup m = none)
    (h : Q (.ref g, [.ref a]) s) : wpAny (model X.prog X.w) A (getMethod (.ref a) m pl) Q E s := by
  obtain ⟨mA, O, r, _, _, _⟩ := ins_get I.hok e
  have hn : mA m = none := RelO.none_of (by rw [← l]; exact r m)
  exact get_meth I.kIn O (c.get m) k.at_ k.fn hn h

theorem setattr_ok {y : V} {u : Value} {Q : Unit → Shared → Prop} (I : Inv X pins σ H s) (e : H a = some (.ins C dx fs)) (c : Cls X.K C) (n : NoAttr X.K C f) (hl : fs.length < 1000) (ry : RelV y u)
    (h : ∀ s', Inv X pins σ (upd H a (.ins C dx (putF f y fs))) s' → Q () s') : wpAny (model X.prog X.w) A (setAttr (.ref a) f u) Q E s := by
  obtain ⟨mA, O, r, wi, _, ho⟩ := ins_get I.hok e
  have hz : (fs.map (·.1)).length ≤ sizeLine := by rw [List.length_map, sizeLine_eq]; omega
  refine set_map I.kIn O c.sa c.po n.taker c.hd wi hz fun h' O' sb => h _ ?_
  have hd : ∃ o, h'.get? dx = some o := let ⟨o, _, _, e', _⟩ := O'.ns; ⟨o, e'⟩
  refine I.write (x := a) (e := dx) (by rw [e]; exact True.intro) (.inr ho) (fun b q hb z => (sb.2 b hb).trans z) hd ?_
  refine ⟨by rw [upd_ne O.ne]; exact ho, ?_, O.ne, O'.obj, _, O'.ns, fun g => ?_, fun g hg => ?_⟩
  · have := length_putF f y fs; omega
  · show RelO ((putF f y fs).lookup g) (if g = f then some u else mA g)
    rw [lookup_putF]
    by_cases q : g = f
    · rw [if_pos q, if_pos q]; exact ry
    · rw [if_neg q, if_neg q]; exact r g
  · by_cases q : g = f
    · rw [q]; exact (keys_putF f y fs).1
    · refine (keys_putF f y fs).2 g (wi g fun z => hg ?_)
      show (if g = f then some u else mA g) = none
      rw [if_neg q]; exact z

/-- a new instance, tracked, without attributes -/
theorem Inv.made (I : Inv X pins σ H s) : Inv X pins σ (upd (upd H s.heap.objs.size (.own (s.heap.objs.size + 1))) (s.heap.objs.size + 1) (.ins C s.heap.objs.size []))
    { s with heap := (s.heap.push PySem.W.emptyDict).push (PySem.W.instObj C s.heap.objs.size) } := by
  have e1 : (s.heap.push PySem.W.emptyDict).get? s.heap.objs.size = some PySem.W.emptyDict := Heap.get?_push_size s.heap rfl
  have e2 : ((s.heap.push PySem.W.emptyDict).push (PySem.W.instObj C s.heap.objs.size)).get? (s.heap.objs.size + 1) = some (PySem.W.instObj C s.heap.objs.size) := by
    have := Heap.get?_push_size (s.heap.push PySem.W.emptyDict) (o := PySem.W.instObj C s.heap.objs.size) rfl
    rwa [Heap.size_push] at this
  have e3 : (s.heap.push PySem.W.emptyDict).Ns s.heap.objs.size (fun _ => none) := ⟨PySem.W.emptyDict, #[], _, e1, rfl, (fun e he => absurd he (by simp)), fun _ => rfl⟩
  have I1 := I.laid (a := s.heap.objs.size) (o := .own (s.heap.objs.size + 1)) (h' := s.heap.push PySem.W.emptyDict) (t' := s.toks) (fun b u q => Heap.get?_push_of_some _ q) (Nat.le_refl _) ⟨_, e1⟩
  refine I1.laid (a := s.heap.objs.size + 1) (o := .ins C s.heap.objs.size []) (t' := s.toks) (fun b u q => Heap.get?_push_of_some _ q) (Nat.le_of_eq (Heap.size_push _ _)) ?_
  have ne : s.heap.objs.size ≠ s.heap.objs.size + 1 := Nat.ne_of_lt (Nat.lt_succ_self _)
  refine ⟨by rw [upd_ne ne, upd_same], Nat.zero_le _, ne, e2, fun _ => none, (Heap.Ns1.of_empty e3).at fun o q => Heap.get?_push_of_some _ q, fun _ => True.intro, fun y hy => absurd rfl hy⟩

/-- e.f where nothing but the object is asked: through attributeBase (super) and the last hold -/
theorem attr_of {prog : Program} {w : World} {env : Env} {e : Expr} {f : Str} {pos : Pos} {s : Shared} {Q : Value → Shared → Prop} (hb : attributeBase e f env (eval e env) = eval e env)
    (h : wpAny (model prog w) A (eval e env) (fun o s₁ => wpAny (model prog w) A (getAttr o f true) Q E s₁) E s) : wpAny (model prog w) A (eval (.Attribute e f pos) env) Q E s :=
  Attribute_any_ h (by rw [arm_eval_Attribute, hb])
end

/-! ### readings and rules -/
/-- e.f, an attribute of the instance -/
def tFld (K : PySem.W.Frag) (ta : TE) (f : Str) : TE := fun σ H Q => ta σ H fun x H1 => ∃ a C dx fs v, x = .ref a ∧ H1 a = some (.ins C dx fs) ∧ Cls K C ∧ NoAttr K C f ∧ fs.lookup f = some v ∧ Q v H1
/-- e.f = value -/
def sFld (K : PySem.W.Frag) (ta tv : TE) (f : Str) : TS := fun D σ H => tv σ H fun y H1 => ta σ H1 fun x H2 => ∃ a C dx fs, x = .ref a ∧ H2 a = some (.ins C dx fs) ∧ Cls K C ∧ NoAttr K C f ∧ fs.length < 1000 ∧
  D.nx σ (upd H2 a (.ins C dx (putF f y fs)))

section
variable {X : Cx} {o e value : Expr} {f : Str} {pos pos' tpos : Pos} {ta tv : TE}
theorem pe_fld (he : PE X e ta) (hb : attributeBase e f X.env (eval e X.env) = eval e X.env) : PE X (.Attribute e f pos) (tFld X.K ta f) := by
  intro pins s σ H Q I h
  refine attr_of hb (thn (he pins s σ H _ I h) fun u s1 ⟨x, H1, I1, rx, a, C, dx, fs, v, ex, ea, c, n, l, q⟩ => ?_)
  subst ex
  obtain rfl : u = Value.ref a := rx
  exact getattr_ok I1 ea c n l fun u' s2 I2 ru => ⟨v, H1, I2, ru, q⟩
theorem ps_fld (ha : PE X o ta) (hv : PE X value tv) (hs : swapsWith value (some (.Attribute o f pos')) pos.line X.env = pure false) : PS X (.Assign [.Attribute o f pos'] value pos) (sFld X.K ta tv f) := by
  intro pins s σ H D I h
  refine plainObj_wpAny_Assign_Attribute (thn (hv pins s σ H _ I h) fun u s1 ⟨y, H1, I1, ry, q⟩ => thn (ha pins s1 σ H1 _ I1 q) fun ov s2 ⟨x, H2, I2, rx, a, C, dx, fs, ex, ea, c, n, l, q2⟩ => ?_) hs
  subst ex
  obtain rfl : ov = Value.ref a := rx
  exact setattr_ok I2 ea c n l ry fun s3 I3 => ⟨σ, _, I3, q2⟩

end

/-! ### isinstance -/
section
variable {X : Cx} {pins : List (Addr × Obj)} {σ : St} {H : Hp} {s : Shared} {A : Around} {E : Value → Shared → Prop} {Q : Value → Shared → Prop} {c : Value} {b : Bool}
/-- the type of a value, as the fragment's deciders take it; for an instance its class -/
inductive TyOf (K : PySem.W.Frag) (H : Hp) : V → Value → Prop where
  | non : TyOf K H .non (.type "NoneType")
  | bl (x : Bool) : TyOf K H (.bl x) (.type "bool")
  | int (i : Int) : TyOf K H (.int i) (.type "int")
  | str (x : Str) : TyOf K H (.str x) (.type "str")
  | flt (x : UInt64) : TyOf K H (.flt x) (.type "float")
  | lst {a : Addr} {xs : List V} (e : H a = some (.lst xs)) : TyOf K H (.ref a) (.type "list")
  | frz {a : Addr} {o : Obj} {xs : List V} (e : H a = some (.frz o (.lst xs))) : TyOf K H (.ref a) (.type "list")
  | tup {a : Addr} {xs : List V} (e : H a = some (.tup xs)) : TyOf K H (.ref a) (.type "tuple")
  | dK {a : Addr} {kvs : List (Key × V)} (e : H a = some (.dK kvs)) : TyOf K H (.ref a) (.type "dict")
  | dT {a : Addr} {kvs : List (List Key × V)} (e : H a = some (.dT kvs)) : TyOf K H (.ref a) (.type "dict")
  | ins {a C dx : Addr} {fs : List (Str × V)} (e : H a = some (.ins C dx fs)) (cl : Cls K C) (ha : PySem.W.findIn K (.ref C) "__class__" = some (some (.builtin "object.__class__")))
      (hn : PySem.W.specialIn K (.builtin "object.__class__") "__get__" = some (some (.builtin "getset_descriptor.__get__"))) (htk : PySem.W.takesIn K (.builtin "object.__class__") = some true)
      (hm : PySem.W.mroIn K C (.type "object") = some true) : TyOf K H (.ref a) (.ref C)
/-- isinstance(x, c) for one class c, a built-in or an own one: kitOne's answer -/
theorem isinst_ok {x : V} {u t : Value} (I : Inv X pins σ H s) (rx : RelV x u) (ty : TyOf X.K H x t) (e : PySem.W.kitOne X.K t c = some b) (h : ∀ tk, Q (.bool b) { s with toks := tk }) :
    wpAny (model X.prog X.w) A (call (.builtin "isinstance") [u, c]) Q E s := by
  cases ty with
  | non => cases (show u = Value.none from rx); exact PySem.W.kia_one PySem.W.kitx_none I.kIn True.intro e (fun z => nomatch z) h
  | bl y => cases (show u = Value.bool y from rx); exact PySem.W.kia_one PySem.W.kitx_bool I.kIn True.intro e (fun z => nomatch z) h
  | int i => obtain ⟨t, q⟩ := (show ∃ t, u = Value.int i t from rx); cases q; exact PySem.W.kia_one PySem.W.kitx_int I.kIn True.intro e (fun z => nomatch z) h
  | str y => obtain ⟨t, q⟩ := (show ∃ t, u = Value.str y t from rx); cases q; exact PySem.W.kia_one PySem.W.kitx_str I.kIn True.intro e (fun z => nomatch z) h
  | flt y => obtain ⟨t, q⟩ := (show ∃ t, u = Value.float y t from rx); cases q; exact PySem.W.kia_one PySem.W.kitx_float I.kIn True.intro e (fun z => nomatch z) h
  | @lst a xs ea =>
    cases (show u = Value.ref a from rx)
    obtain ⟨_, _, n, _, h1⟩ := (show ObjOk X.prog X.w H s.heap a (.lst xs) from I.hok a _ ea)
    exact PySem.W.kia_one PySem.W.kitx_list I.kIn ⟨_, h1, rfl⟩ e (fun z => nomatch z) h
  | @frz a ob xs ea =>
    cases (show u = Value.ref a from rx)
    obtain ⟨_, _, _, n, _, h1⟩ := (show ObjOk X.prog X.w H s.heap a (.frz ob (.lst xs)) from I.hok a _ ea)
    exact PySem.W.kia_one PySem.W.kitx_list I.kIn ⟨_, h1, rfl⟩ e (fun z => nomatch z) h
  | @tup a xs ea =>
    cases (show u = Value.ref a from rx)
    obtain ⟨_, _, _, p⟩ := (show ObjOk X.prog X.w H s.heap a (.tup xs) from I.hok a _ ea)
    obtain ⟨o, h1, h2, _⟩ := p
    exact PySem.W.kia_one PySem.W.kitx_tuple I.kIn ⟨o, h1, h2⟩ e (fun z => nomatch z) h
  | @dK a kvs ea =>
    cases (show u = Value.ref a from rx)
    obtain ⟨_, _, vs, _, p⟩ := (show ObjOk X.prog X.w H s.heap a (.dK kvs) from I.hok a _ ea)
    obtain ⟨o, es, ep, h1, h2, _⟩ := p
    exact PySem.W.kia_one PySem.W.kitx_dict I.kIn ⟨o, h1, h2.1⟩ e (fun z => nomatch z) h
  | @dT a kvs ea =>
    cases (show u = Value.ref a from rx)
    obtain ⟨_, _, xs, _, o, es, ep, h1, h2, _⟩ := (show ObjOk X.prog X.w H s.heap a (.dT kvs) from I.hok a _ ea)
    exact PySem.W.kia_one PySem.W.kitx_dict I.kIn ⟨o, h1, h2.1⟩ e (fun z => nomatch z) h
  | @ins a C dx fs ea cl ha hn htk hm =>
    cases (show u = Value.ref a from rx)
    obtain ⟨mA, O, _⟩ := ins_get I.hok ea
    obtain ⟨od, J, _⟩ := O.look
    exact PySem.W.kia_one (PySem.W.kitx_own (cl.get _) cl.hd ha hn htk hm) I.kIn J e (fun z => nomatch z) h
end
end L2

namespace L2
open PySem PySem.Spec PyProof.Rows

/-! ### room -/
structure Room (k : Nat) (A : Around) : Prop where
  hd : A.handled = none
  dp : A.depth + 3 * k + 5 < recursionLimit
  un : A.units + 16 * k + 200 < cLine
  gd : A.guards = some []
theorem Room.mono {j k : Nat} {A : Around} (r : Room k A) (h : j ≤ k) : Room j A := ⟨r.hd, by have := r.dp; omega, by have := r.un; omega, r.gd⟩
theorem Room.deeper {k : Nat} {A : Around} (r : Room (k + 1) A) (env : Env) : Room k (A.deeper env) :=
  ⟨r.hd, by have := r.dp; show A.depth + 1 + 3 * k + 5 < _; omega, by have := r.un; show A.units + 3 + 16 * k + 200 < _; omega, r.gd⟩
theorem make_guards {A : Around} {C : Addr} {us : List Value} {kw : List (Str × Value)} (h : A.guards = some []) : (A.under (.builtin "type.__call__" ⟨.ref C :: us, kw⟩)).guards = some [] := by
  have e : (Code.builtin "type.__call__" ⟨.ref C :: us, kw⟩).isGuard = false := by first | rfl | simp [Code.isGuard, guardIds]
  have q : ∀ c : Code, (A.under c).guards = pushGuards c.guards A.guards := fun _ => rfl
  rw [q, h, Code.guards, e]
  rfl
theorem make_depth {A : Around} {C : Addr} {us : List Value} {kw : List (Str × Value)} : (A.under (.builtin "type.__call__" ⟨.ref C :: us, kw⟩)).depth = A.depth + 1 := by
  first | rfl | simp [Around.under, Code.weight, Code.isCreation, Code.isGuard, Code.isCaller, Code.frames, Code.isFrame, guardIds]
theorem make_units {A : Around} {C : Addr} {us : List Value} {kw : List (Str × Value)} : (A.under (.builtin "type.__call__" ⟨.ref C :: us, kw⟩)).units = A.units + 1 := by
  first | rfl | simp [Around.under, Code.cUnits, Code.frames, Code.isFrame]
theorem Room.make {k : Nat} {A : Around} (r : Room (k + 1) A) (C : Addr) (us : List Value) (kw : List (Str × Value)) : Room k (A.under (.builtin "type.__call__" ⟨.ref C :: us, kw⟩)) :=
  ⟨r.hd, by have := r.dp; rw [make_depth]; omega, by have := r.un; rw [make_units]; omega, make_guards r.gd⟩
theorem Room.depth {k : Nat} {A : Around} (r : Room k A) : A.depth < recursionLimit := by have := r.dp; omega
theorem Room.units {k : Nat} {A : Around} (r : Room k A) : A.units + 64 < cLine := by have := r.un; omega

/-! ### argument lists and displays -/
def tNil : TA := fun _ H Q => Q [] H
def tCons (ta : TE) (tr : TA) : TA := fun σ H Q => ta σ H fun x H1 => tr σ H1 fun xs H2 => Q (x :: xs) H2
section
variable {X : Cx} {e : Expr} {es : List Expr} {te : TE} {t : TA} {pos : Pos}
theorem pa_nil : PA X [] tNil := fun _ _ _ _ H Q I h => Calls.spliced_nil ⟨[], H, I, .nil, h⟩
theorem pa_cons (ha : PE X e te) (hr : PA X es t) (hs : starEach (e :: es) X.env = (false, eval e X.env) :: starEach es X.env := by rfl) : PA X (e :: es) (tCons te t) := by
  intro pos pins s σ H Q I h
  rw [hs]
  show wpAny _ _ (spliced ((false, eval e X.env) :: backTo pos (starEach es X.env))) _ _ s
  refine Calls.spliced_cons (thn (ha pins s σ H _ I h) fun u s1 ⟨x, H1, I1, r1, q1⟩ => ?_)
  exact thn (hr pos pins s1 σ H1 _ I1 q1) fun us s2 ⟨xs, H2, I2, r2, q2⟩ => ⟨x :: xs, H2, I2, .cons r1 r2, q2⟩

/-- a tuple, a list of written items -/
def tTup (t : TA) : TE := fun σ H Q => t σ H fun xs H1 => xs.length ≤ sizeLine ∧ ∀ p, H1 p = none → Q (.ref p) (upd H1 p (.tup xs))
def tLst (t : TA) : TE := fun σ H Q => t σ H fun xs H1 => xs.length ≤ sizeLine ∧ ∀ p, H1 p = none → Q (.ref p) (upd H1 p (.lst xs))
theorem pe_tup {x1} (h : PA X es t) : PE X (.Tuple es x1 pos) (tTup t) := by
  intro pins s σ H Q I hq
  refine wpAny_Tuple_spliced (thn (h pos pins s σ H _ I hq) fun us s1 ⟨xs, H1, I1, r, z, q⟩ => ⟨by rw [← r.length]; exact z, ?_⟩)
  have hf : H1 s1.heap.objs.size = none := I1.hok.fresh (Nat.le_refl _)
  refine ⟨.ref s1.heap.objs.size, upd H1 s1.heap.objs.size (.tup xs), I1.laid (t' := s1.toks) (fun b u e => Heap.get?_push_of_some _ e) (Nat.le_refl _) ?_, rfl, q _ hf⟩
  exact ⟨z, us, r, ⟨_, Heap.get?_push_size _ rfl, rfl, _, rfl⟩⟩
theorem pe_lst (h : PA X es t) : PE X (.List es pos) (tLst t) := by
  intro pins s σ H Q I hq
  refine wpAny_List_spliced (thn (h pos pins s σ H _ I hq) fun us s1 ⟨xs, H1, I1, r, z, q⟩ => ⟨by rw [← r.length]; exact z, ?_⟩)
  have hf : H1 s1.heap.objs.size = none := I1.hok.fresh (Nat.le_refl _)
  refine ⟨.ref s1.heap.objs.size, upd H1 s1.heap.objs.size (.lst xs), I1.laid (t' := s1.toks) (fun b u e => Heap.get?_push_of_some _ e) (Nat.le_refl _) ?_, rfl, q _ hf⟩
  exact ⟨z, us, 0, r, Heap.get?_push_size _ rfl⟩
end

/-! ### what a def promises -/
/-- a def's promise: the bound arguments in the parameters' order, the heap, the wanted end, the wanted exception -/
abbrev Sp := List V → Hp → VK → XK → Prop
/-- how an exception lies behind a call (file 08 gives it): the callers' frames, abstract heap and state ahead of the call, the wish, the exception, the state -/
abbrev CXT := List Env → Hp → Shared → XK → Value → Shared → Prop

/-- the state at a call -/
structure Env0 (P : Program) (w : World) (K : PySem.W.Frag) (mg : Str → Option Value) (base : Heap) (A : Around) (outer : List Env) (s : Shared) (H : Hp) : Prop where
  frames : A.frames = some outer
  mod : Mod K mg base
  bs : ∀ b o, base.get? b = some o → s.heap.get? b = some o ∧ H b = none
  bsz : base.objs.size ≤ s.heap.objs.size
  funs : s.heap.FunFrames base outer
  frf : ∀ b ∈ frs outer, H b = none
  hok : HOk P w H s.heap
  bare : AllBare s.gens
/-- a call's end -/
def CE (outer : List Env) (P : Program) (w : World) (H : Hp) (s : Shared) (Q : VK) (u : Value) (s' : Shared) : Prop :=
  ∃ v H', s'.os = s.os ∧ AllBare s'.gens ∧ Un (frs outer) [] H H' s.heap s'.heap ∧ HOk P w H' s'.heap ∧ RelV v u ∧ Q v H'
def CR (CX : CXT) (outer : List Env) (P : Program) (w : World) (H : Hp) (s : Shared) (Q : VK) (E : XK) (r : Result) (s' : Shared) : Prop :=
  match r with
  | .ok (.ret u) => CE outer P w H s Q u s'
  | .ok _ => False
  | .error e => CX outer H s E e s'
structure FnOk (P : Program) (w : World) (K : PySem.W.Frag) (mg : Str → Option Value) (base : Heap) (CX : CXT) (k : Nat) (f : Addr) (fd : FuncData) (ps : List Str) (sp : Sp) : Prop where
  len : ∀ vs H Q E, sp vs H Q E → vs.length = ps.length
  run : ∀ (A : Around) (outer : List Env) (s : Shared) (H : Hp) (args : Args) (us : List Value) (vs : List V) (Q : VK) (E : XK), Room k A → Env0 P w K mg base A outer s H → BindsTo s fd args (ps.zip us) → Vals vs us → sp vs H Q E →
    codeAny (model P w) A (.call (.ref f) args) (CR CX outer P w H s Q E) s

theorem Env0.make {P : Program} {w : World} {K : PySem.W.Frag} {mg : Str → Option Value} {base : Heap} {A : Around} {outer : List Env} {s : Shared} {H : Hp} (e : Env0 P w K mg base A outer s H) (C : Addr) (us : List Value) (kw : List (Str × Value)) :
    Env0 P w K mg base (A.under (.builtin "type.__call__" ⟨.ref C :: us, kw⟩)) outer s H := ⟨by first | exact e.frames | (simpa [Around.under, Code.envs, Code.isFrame, pushEnvs] using e.frames), e.mod, e.bs, e.bsz, e.funs, e.frf, e.hok, e.bare⟩

section
variable {X : Cx} {pins : List (Addr × Obj)} {σ : St} {H : Hp} {s s' : Shared}
/-- from a body: what a callee wants -/
theorem Inv.env0 (I : Inv X pins σ H s) : Env0 X.prog X.w X.K X.mg X.base X.A X.stack s H :=
  ⟨I.ok.frames, I.ok.mod, I.bs, Nat.le_trans I.ok.bsz I.sz, I.stack, I.stkFree, I.hok, I.bare⟩
/-- behind a call -/
theorem Inv.after {Q : VK} {u : Value} (I : Inv X pins σ H s) (h : CE X.stack X.prog X.w H s Q u s') : EP X pins σ Q u s' := by
  obtain ⟨v, H', os, bare, un, hok, r, q⟩ := h
  obtain ⟨hh, g, d, t, os'⟩ := s'
  obtain rfl : os' = s.os := os
  exact ⟨v, H', I.call (h' := hh) (g' := g) (d' := d) (t' := t) (ch := []) un hok bare (fun b z => absurd z (by simp)), r, q⟩
end

/-! ### calls -/
/-- f(..): the written arguments, then the defaults dvs; E: what is wanted of an exception -/
def tCall (sp : Sp) (dvs : List V) (E : XK) (t : TA) : TE := fun σ H Q => t σ H fun vs H1 => sp (vs ++ dvs) H1 Q E
/-- o.m(..) of an instance of the class at C -/
def tMeth (C : Addr) (m : Str) (sp : Sp) (dvs : List V) (E : XK) (ta : TE) (t : TA) : TE := fun σ H Q => ta σ H fun x H1 => ∃ a dx fs, x = .ref a ∧ H1 a = some (.ins C dx fs) ∧ fs.lookup m = none ∧
  t σ H1 fun vs H2 => sp (x :: (vs ++ dvs)) H2 Q E
/-- C(..): a new instance and its dict, then __init__ -/
def tMake (C : Addr) (sp : Sp) (dvs : List V) (E : XK) (t : TA) : TE := fun σ H Q => t σ H fun vs H1 => ∀ x dx, H1 x = none → H1 dx = none → dx ≠ x →
  sp (.ref x :: (vs ++ dvs)) (upd (upd H1 dx (.own x)) x (.ins C dx [])) (fun v H2 => v = .non ∧ Q (.ref x) H2) E

/-- how the parameters are bound: us the positional arguments, kw the keywords' values by name, ds the defaults that fill up -/
def Binds (K : PySem.W.Frag) (fd : FuncData) (ps : List Str) (ds : List Value) : Prop :=
  ∀ (s : Shared) (us : List Value), K.In s.heap → (us ++ ds).length = ps.length → BindsTo s fd ⟨us, []⟩ (ps.zip (us ++ ds))
/-- every parameter is given -/
theorem Binds.all {K : PySem.W.Frag} {fd : FuncData} {ps : List Str} (h : ∀ us : List Value, us.length = ps.length → bindArgs fd ⟨us, []⟩ = pure (ps.zip us)) : Binds K fd ps [] := fun s us _ hl => by
  rw [List.append_nil] at hl ⊢
  exact .of_eq (h us hl)

/-- an exception of a callee reaches what this body wants of exceptions -/
def Passes (CX : CXT) (X : Cx) (E : XK) : Prop := ∀ (pins : List (Addr × Obj)) (σ : St) (H : Hp) (s : Shared) (e : Value) (s' : Shared), Inv X pins σ H s → CX X.stack H s E e s' → X.xe e s'

section
variable {X : Cx} {CX : CXT} {k : Nat} {f C : Addr} {fd : FuncData} {ps : List Str} {sp : Sp} {dvs : List V} {ds : List Value} {E : XK} {x m : Str} {p pos apos : Pos} {e o : Expr} {es : List Expr} {ta : TE} {t : TA}

/-- the callee runs -/
theorem run_fn {pins : List (Addr × Obj)} {σ : St} {H : Hp} {s : Shared} {Q : VK} {us : List Value} {vs : List V} (F : FnOk X.prog X.w X.K X.mg X.base CX k f fd ps sp) (hr : Room k X.A) (hb : Binds X.K fd ps ds) (hd : Vals dvs ds) (hx : Passes CX X E)
    (I : Inv X pins σ H s) (r : Vals vs us) (h : sp (vs ++ dvs) H Q E) : wpAny (model X.prog X.w) X.A (call (.ref f) us) (EP X pins σ Q) X.xe s := by
  have r2 : Vals (vs ++ dvs) (us ++ ds) := r.append hd
  have hl : (us ++ ds).length = ps.length := by rw [← r2.length]; exact F.len _ _ _ _ h
  refine wpAny_call (codeAny_mono (F.run X.A X.stack s H ⟨us, []⟩ (us ++ ds) (vs ++ dvs) Q E hr I.env0 (hb s us I.kIn hl) r2 h) fun r s' hq => ?_)
  cases r with
  | error e => exact hx pins σ H s e s' I hq
  | ok fl =>
    cases fl with
    | ret u => exact I.after hq
    | next => exact False.elim hq
    | brk => exact False.elim hq
    | cont => exact False.elim hq

theorem pe_call (F : FnOk X.prog X.w X.K X.mg X.base CX k f fd ps sp) (hr : Room k X.A) (hg : Gl X x) (hm : X.mg x = some (.ref f)) (hk : PySem.W.keepIn X.K (.ref f) = true) (hb : Binds X.K fd ps ds) (hd : Vals dvs ds) (hx : Passes CX X E)
    (ha : PA X (e :: es) t) (hdb : (x == ("__debug__" : Str)) = false := by decide) (he : starEach (e :: es) X.env = (false, eval e X.env) :: starEach es X.env := by rfl) (hpl : (backTo pos (starEach es X.env)).any (·.1) = false := by rfl) :
    PE X (.Call (.Name x p) (e :: es) [] pos) (tCall sp dvs E t) := by
  intro pins s σ H Q I h
  refine wpAny_Call_Name_kw (ld_glob I hg hm ?_ hdb)
  refine PySem.W.callWith_K (h₀ := X.base) I.ok.mod.kin hk (thn (ha pos pins s σ H _ I h) fun us s1 ⟨vs, H1, I1, r, q⟩ => ⟨I1.kIn, ?_⟩) he hpl
  exact run_fn F hr hb hd hx I1 r q

/-- o.m() -/
theorem pe_meth0 {pl : Sem Bool} (he : PE X o ta) (c : Cls X.K C) (hm : Meth X.K C m f) (F : FnOk X.prog X.w X.K X.mg X.base CX k f fd ps sp) (hr : Room k X.A) (hb : Binds X.K fd ps ds) (hd : Vals dvs ds) (hx : Passes CX X E)
    (ht : eval (.Call (.Attribute o m apos) [] [] pos) X.env = (do
      let ov ← eval o X.env
      standAt apos.atName
      let (f, first) ← holding [ov] (getMethod ov m pl)
      callWith pos f first (backTo pos (starEach [] X.env)) (backToKw pos (keywordEach [] X.env))) := by rfl) :
    PE X (.Call (.Attribute o m apos) [] [] pos) (tMeth C m sp dvs E ta tNil) := by
  intro pins s σ H Q I h
  refine PySem.W.methodCall_KW (pl := pl) (thn (he pins s σ H _ I h) fun u s1 ⟨x, H1, I1, rx, a, dx, fs, ex, ea, l, q⟩ => ?_) ht
  subst ex
  obtain rfl : u = Value.ref a := rx
  refine getmeth_ok I1 ea c hm l ?_
  exact PySem.W.callWith_K0 (first := [.ref a]) I1.kIn hm.kp (run_fn (us := [.ref a]) (vs := [.ref a]) F hr hb hd hx I1 (.cons rfl .nil) q)

/-- what a class must have to be made -/
structure Mk (K : PySem.W.Frag) (C f : Addr) : Prop where
  makes : PySem.W.makesIn K C = true
  init : PySem.W.findIn K (.ref C) "__init__" = some (some (.ref f))
  fn : PySem.W.isFn K (.ref f) = true
  kp : PySem.W.keepIn K (.ref C) = true

theorem run_make {pins : List (Addr × Obj)} {σ : St} {H : Hp} {s : Shared} {Q : VK} {us : List Value} {vs : List V} (M : Mk X.K C f) (F : FnOk X.prog X.w X.K X.mg X.base CX k f fd ps sp) (hr : Room (k + 1) X.A) (hb : Binds X.K fd ps ds) (hd : Vals dvs ds)
    (hx : Passes CX X E) (I : Inv X pins σ H s) (r : Vals vs us)
    (h : ∀ x dx, H x = none → H dx = none → dx ≠ x → sp (.ref x :: (vs ++ dvs)) (upd (upd H dx (.own x)) x (.ins C dx [])) (fun v H2 => v = .non ∧ Q (.ref x) H2) E) :
    wpAny (model X.prog X.w) X.A (call (.ref C) us) (EP X pins σ Q) X.xe s := by
  have hq := h (s.heap.objs.size + 1) s.heap.objs.size (I.hok.fresh (Nat.le_succ _)) (I.hok.fresh (Nat.le_refl _)) (Nat.ne_of_lt (Nat.lt_succ_self _))
  have I2 := Inv.made (C := C) I
  have r2 : Vals (V.ref (s.heap.objs.size + 1) :: (vs ++ dvs)) (Value.ref (s.heap.objs.size + 1) :: (us ++ ds)) := .cons rfl (r.append hd)
  have hl : (Value.ref (s.heap.objs.size + 1) :: us ++ ds).length = ps.length := by
    have e := r2.length
    rw [F.len _ _ _ _ hq] at e
    exact e.symm
  refine wpAny_call (make_map (f := f) I.kIn M.makes M.init (beq_iff_eq.mp M.fn) (codeAny_mono (F.run _ X.stack _ _ ⟨Value.ref (s.heap.objs.size + 1) :: us, []⟩ (Value.ref (s.heap.objs.size + 1) :: (us ++ ds)) _ _ E (hr.make C us [])
    (I2.env0.make C us []) (hb _ (Value.ref (s.heap.objs.size + 1) :: us) I2.kIn hl) r2 hq) fun r s' hq' => ?_))
  cases r with
  | error e => exact hx pins σ _ _ e s' I2 hq'
  | ok fl =>
    cases fl with
    | ret u =>
      obtain ⟨v, H', I3, rv, ev, q3⟩ := I2.after hq'
      subst ev
      exact ⟨rv, ⟨V.ref (s.heap.objs.size + 1), H', I3, rfl, q3⟩⟩
    | next => exact False.elim hq'
    | brk => exact False.elim hq'
    | cont => exact False.elim hq'
theorem pe_make (M : Mk X.K C f) (F : FnOk X.prog X.w X.K X.mg X.base CX k f fd ps sp) (hr : Room (k + 1) X.A) (hg : Gl X x) (hm : X.mg x = some (.ref C)) (hb : Binds X.K fd ps ds) (hd : Vals dvs ds) (hx : Passes CX X E)
    (ha : PA X (e :: es) t) (hdb : (x == ("__debug__" : Str)) = false := by decide) (he : starEach (e :: es) X.env = (false, eval e X.env) :: starEach es X.env := by rfl) (hpl : (backTo pos (starEach es X.env)).any (·.1) = false := by rfl) :
    PE X (.Call (.Name x p) (e :: es) [] pos) (tMake C sp dvs E t) := by
  intro pins s σ H Q I h
  refine wpAny_Call_Name_kw (ld_glob I hg hm ?_ hdb)
  refine PySem.W.callWith_K (h₀ := X.base) I.ok.mod.kin M.kp (thn (ha pos pins s σ H _ I h) fun us s1 ⟨vs, H1, I1, r, q⟩ => ⟨I1.kIn, ?_⟩) he hpl
  exact run_make M F hr hb hd hx I1 r q
end

/-! ### keywords -/
section
variable {X : Cx} {CX : CXT} {k : Nat} {f C : Addr} {fd : FuncData} {ps ks : List Str} {sp : Sp} {E : XK} {x m : Str} {p pos apos kpos : Pos} {e o : Expr} {es : List Expr} {kws : List Keyword} {te ta : TE} {t tk : TA} {nm : Option Str}

variable {g : List Value → List Value → List Value} {gV : List V → List V → List V}
end

/-! ### a def's body keeps its promise -/
/-- names: the parameters first -/
structure FnScope (N P : List Str) (sc : Scope) : Prop where
  kind : sc.kind = .function
  co : sc.isCoroutine = false
  gen : sc.isGenerator = false
  nd : N.Nodup
  pre : N.take P.length = P
  par : ∀ x ∈ P, sc.names.lookup x = some .local ∨ sc.names.lookup x = some .cell
  nofree : ∀ y ∈ sc.names, y.2 ≠ .free

theorem bindL_out {kindOf : Str → Option NameKind} {x : Str} : ∀ {binds : List (Str × Value)} {m : Str → Option Value}, (∀ v, (x, v) ∉ binds) → bindL kindOf binds m x = m x
  | [], _, _ => rfl
  | (n, v) :: r, m, h => by
    unfold bindL
    rw [bindL_out fun w hw => h w (List.mem_cons_of_mem _ hw)]
    split
    · have : x ≠ n := by rintro rfl; exact h v List.mem_cons_self
      simp [this]
    · rfl
theorem bindC_out {kindOf : Str → Option NameKind} {x : Str} : ∀ {binds : List (Str × Value)} {m : Str → Option Value}, (∀ v, (x, v) ∉ binds) → bindC kindOf binds m x = m x
  | [], _, _ => rfl
  | (n, v) :: r, m, h => by
    unfold bindC
    rw [bindC_out fun w hw => h w (List.mem_cons_of_mem _ hw)]
    split
    · rfl
    · have : x ≠ n := by rintro rfl; exact h v List.mem_cons_self
      simp [this]
theorem bindL_get {kindOf : Str → Option NameKind} {x : Str} {v : Value} : ∀ {P : List Str} {vs : List Value} {i : Nat} {m : Str → Option Value}, P.Nodup → P[i]? = some x → vs[i]? = some v → kindOf x = some .local →
    bindL kindOf (P.zip vs) m x = some v
  | [], _, _, _, _, h, _, _ => by simp at h
  | _ :: _, [], _, _, _, _, h, _ => by simp at h
  | p :: P, w :: vs, 0, m, nd, h1, h2, hk => by
    simp at h1 h2; subst h1; subst h2
    show bindL kindOf ((p, w) :: P.zip vs) m p = _
    unfold bindL
    rw [bindL_out fun v hv => (List.nodup_cons.mp nd).1 (List.of_mem_zip hv).1, if_pos hk]
    simp
  | p :: P, w :: vs, i + 1, m, nd, h1, h2, hk => by
    show bindL kindOf ((p, w) :: P.zip vs) m x = _
    unfold bindL
    exact bindL_get (i := i) (List.nodup_cons.mp nd).2 (by simpa using h1) (by simpa using h2) hk
theorem bindC_get {kindOf : Str → Option NameKind} {x : Str} {v : Value} : ∀ {P : List Str} {vs : List Value} {i : Nat} {m : Str → Option Value}, P.Nodup → P[i]? = some x → vs[i]? = some v → kindOf x ≠ some .local →
    bindC kindOf (P.zip vs) m x = some v
  | [], _, _, _, _, h, _, _ => by simp at h
  | _ :: _, [], _, _, _, _, h, _ => by simp at h
  | p :: P, w :: vs, 0, m, nd, h1, h2, hk => by
    simp at h1 h2; subst h1; subst h2
    show bindC kindOf ((p, w) :: P.zip vs) m p = _
    unfold bindC
    rw [bindC_out fun v hv => (List.nodup_cons.mp nd).1 (List.of_mem_zip hv).1, if_neg hk]
    simp
  | p :: P, w :: vs, i + 1, m, nd, h1, h2, hk => by
    show bindC kindOf ((p, w) :: P.zip vs) m x = _
    unfold bindC
    exact bindC_get (i := i) (List.nodup_cons.mp nd).2 (by simpa using h1) (by simpa using h2) hk

/-- the names' values at the entry -/
def start (N : List Str) (vs : List V) : St := vs.map some ++ List.replicate (N.length - vs.length) none

/-- the context of a def's body, at its entry; an exception leaves the frame, then lies as CX says -/
def cxOf (CX : CXT) (P : Program) (w : World) (K : PySem.W.Frag) (mg : Str → Option Value) (base : Heap) (N : List Str) (qual : Str) (scope : Scope) (f : Addr) (cd : Value) (A : Around) (outer : List Env) (s : Shared) (H : Hp) (E : XK) : Cx where
  prog := P
  w := w
  K := K
  mg := mg
  base := base
  A := A.deeper (envOfC qual scope s.heap.objs.size f cd)
  N := N
  s₀ := s
  H₀ := H
  env := envOfC qual scope s.heap.objs.size f cd
  outer := outer
  stack := envOfC qual scope s.heap.objs.size f cd :: outer
  ex := []
  calm := true
  fn := fun _ => true
  pn := []
  xe := fun e s' => wpAny (model P w) (A.deeper (envOfC qual scope s.heap.objs.size f cd)) (leaving (envOfC qual scope s.heap.objs.size f cd) e) (fun _ s'' => CX outer H s E e s'') (fun e' s'' => CX outer H s E e' s'') s'

theorem cell_has {sc : Scope} {n : Nat} {x : Str} (h : sc.names.lookup x = some .cell) : ∃ c, (cellsFrom n sc.names []).lookup x = some c := by
  have q := PySem.W.cellsFrom_some sc.names n [] (.inl h)
  exact Option.isSome_iff_exists.mp q

theorem inv_start {CX : CXT} {P : Program} {w : World} {K : PySem.W.Frag} {mg : Str → Option Value} {base : Heap} {N ps : List Str} {qual : Str} {scope : Scope} {f : Addr} {cd : Value} {A : Around} {outer : List Env} {s s1 : Shared} {H : Hp} {E : XK} {us : List Value} {vs : List V}
    (S : FnScope N ps scope) (hd : A.handled = none) (e0 : Env0 P w K mg base A outer s H) (hl : vs.length = ps.length) (r : Vals vs us)
    (x : InCallC s s.heap.objs.size (bindL (envOfC qual scope s.heap.objs.size f cd).kindOf (ps.zip us) fun _ => none) (cellsFrom (s.heap.objs.size + 1) scope.names []) (bindC (envOfC qual scope s.heap.objs.size f cd).kindOf (ps.zip us) fun _ => none) s1) :
    Inv (cxOf CX P w K mg base N qual scope f cd A outer s H E) [] (start N vs) H s1 := by
  have hpl : ps.length ≤ N.length := by have := congrArg List.length S.pre; rw [List.length_take] at this; omega
  obtain ⟨h1, tk, rfl, hk⟩ := x.done
  have noA : ∀ b : Addr, b ∉ (cxOf CX P w K mg base N qual scope f cd A outer s H E).ex := fun b z => absurd (show b ∈ ([] : List Addr) from z) (by simp)
  refine ⟨⟨e0.mod, S.kind, rfl, rfl, Nat.le_refl _, fun y z c h1 h2 => ?_, fun y hy => ?_, fun y c _ h => ?_, fun _ => hd, Around.frames_deeper e0.frames, .inr ⟨rfl, rfl⟩, fun b z => absurd z (noA b), e0.bs, e0.bsz, fun b _ _ => noA b, fun b z => absurd z (noA b), e0.funs, e0.frf⟩,
    rfl, e0.bare, Un.kept hk, ⟨_, x.toInCall.ns, fun i y v h1 h2 h3 => ?_⟩, fun y c h => ⟨_, x.cell y c h⟩, e0.hok.fresh (Nat.le_refl _), fun y c h => ?_, fun p hp => absurd (show p ∈ ([] : List (Addr × Obj)) from hp) (by simp), e0.hok.kept hk, ?_⟩
  · exact name_of_addr x.apart (PySem.mem_of_lookup h1) (PySem.mem_of_lookup h2)
  · have hy : scope.names.lookup y = some .cell ∨ scope.names.lookup y = some .free := hy
    rcases hy with hy | hy
    · exact cell_has hy
    · exact absurd rfl (S.nofree _ (PySem.mem_of_lookup hy))
  · exact Nat.le_of_lt (x.above y c (PySem.mem_of_lookup h))
  · have hi : i < vs.length := by
      unfold start at h2
      by_cases hi : i < vs.length
      · exact hi
      · rw [List.getElem?_append_right (by simpa using hi)] at h2
        rw [List.getElem?_replicate] at h2
        split at h2 <;> cases h2
    have ha : vs[i]? = some v := by
      unfold start at h2
      rw [List.getElem?_append_left (by simpa using hi), List.getElem?_map] at h2
      cases e : vs[i]? with
      | none => rw [e] at h2; cases h2
      | some a => rw [e] at h2; cases h2; rfl
    obtain ⟨u, hu, rv⟩ := r.get ha
    have hp : ps[i]? = some y := by
      rw [← S.pre, List.getElem?_take_of_lt (by omega)]; exact h1
    have ndP : ps.Nodup := by rw [← S.pre]; exact S.nd.sublist (List.take_sublist _ _)
    refine ⟨u, rv, ?_⟩
    rcases S.par y (List.mem_of_getElem? hp) with k | k
    · exact .inl ⟨k, bindL_get ndP hp hu k⟩
    · obtain ⟨c, e⟩ := cell_has (n := s.heap.objs.size + 1) k
      refine .inr ⟨.inl k, c, e, ?_⟩
      have q := x.cell y c e
      rw [bindC_get ndP hp hu (by show scope.names.lookup y ≠ _; rw [k]; decide)] at q
      exact q
  · exact e0.hok.fresh (Nat.le_of_lt (x.above y c (PySem.mem_of_lookup h)))
  · unfold start
    show _ = N.length
    rw [List.length_append, List.length_map, List.length_replicate]
    omega

/-- THE RULE: a def (or a method) of the text, by its body. The body's reading t is chosen for each entry; it is run at the parameters' values -/
theorem fn_of {CX : CXT} {P : Program} {w : World} {K : PySem.W.Frag} {mg : Str → Option Value} {base : Heap} {k : Nat} {f : Addr} {name qual : Str} {params : Arguments} {body : List Stmt} {scope : Scope} {dV kV doc pm cdv ct oc : Value} {an od : Option Addr}
    {osl : Array (Option Value)} {N ps : List Str} {sp : Sp} (lk : K.lookup f = some ⟨oc, od, .func (PySem.W.fnOf name qual params body scope dV kV doc pm an cdv ct), osl⟩) (hcd : PySem.W.codeIn K cdv qual = true) (S : FnScope N ps scope)
    (len : ∀ vs H Q E, sp vs H Q E → vs.length = ps.length)
    (hbody : ∀ (A : Around) (outer : List Env) (s : Shared) (H : Hp) (vs : List V) (Q : VK) (E : XK), Room k (A.deeper (envOfC qual scope s.heap.objs.size f cdv)) → sp vs H Q E →
      ∃ t, PSs (cxOf CX P w K mg base N qual scope f cdv A outer s H E) body t ∧ t { nx := fun _ H' => Q .non H', rt := Q } (start N vs) H) :
    FnOk P w K mg base CX (k + 1) f (PySem.W.fnOf name qual params body scope dV kV doc pm an cdv ct) ps sp := by
  refine ⟨len, fun A outer s H args us vs Q E hr e0 hb r hsp => ?_⟩
  have hl := len _ _ _ _ hsp
  have KX : K.In s.heap := e0.mod.kin.keeps fun b o e => (e0.bs b o e).1
  have lim : s.heap.NoLimit := e0.mod.nolimit.keeps fun b o e => (e0.bs b o e).1
  have hkind : ∀ y ∈ ps.zip us, scope.names.lookup y.1 = some .local ∨ (scope.names.lookup y.1 = some .cell ∧ ((cellsFrom (s.heap.objs.size + 1) scope.names []).lookup y.1).isSome = true) := fun ⟨n, v⟩ hy => by
    rcases S.par n (List.of_mem_zip hy).1 with q | q
    · exact .inl q
    · exact .inr ⟨q, PySem.W.cellsFrom_some _ _ _ (.inl q)⟩
  refine codeAny_call_function hr.depth (KX _ _ lk) rfl S.co S.gen rfl (PySem.W.codeRec_of KX hcd) (hb _ _ _ _ ?_)
  refine wpAny_newFunctionEnv_cells S.kind hkind fun env he s1 x => ?_
  subst he
  refine ⟨lim.keeps x.toInCall.keep, codeAny_func ?_⟩
  obtain ⟨t, ht, hq⟩ := hbody A outer s H vs Q E (hr.deeper _) hsp
  have I : Inv (cxOf CX P w K mg base N qual scope f cdv A outer s H E) [] (start N vs) H s1 := inv_start S hr.hd e0 hl r x
  refine wpAny_mono (ht [] s1 (start N vs) H _ I hq) (fun fl s' hs => ?_) fun e s' hs => hs
  have fin : ∀ {σ' : St} {H' : Hp} {v : V} {u : Value}, Inv (cxOf CX P w K mg base N qual scope f cdv A outer s H E) [] σ' H' s' → RelV v u → Q v H' → CE outer P w H s Q u s' :=
    fun {σ' H' v u} J rv q => ⟨v, H', J.os, J.bare, J.base, J.hok, rv, q⟩
  cases fl with
  | ret u =>
    obtain ⟨v, σ', H', J, rv, q⟩ := hs
    exact fin J rv q
  | next =>
    obtain ⟨σ', H', J, q⟩ := hs
    exact fin (v := V.non) (u := Value.none) J rfl q
  | brk =>
    obtain ⟨_, _, _, q⟩ := hs
    exact False.elim q
  | cont =>
    obtain ⟨_, _, _, q⟩ := hs
    exact False.elim q
end L2

namespace L2
open PySem PySem.Spec PyProof.Rows
section
variable {X : Cx} {x : Str} {p pos : Pos} {e : Expr} {es : List Expr} {t : TA} {id T : String} {r : List V → Hp → VK → Prop}

def tCB (r : List V → Hp → VK → Prop) (t : TA) : TE := fun σ H Q => t σ H fun vs H1 => r vs H1 Q
/-- f(e, ..), f a built-in function -/
theorem pe_callB (hc : CallR X (.builtin id) r) (hg : Gl X x) (hm : X.mg x = none) (hv : bootBuiltins x = some (.builtin id)) (ha : PA X (e :: es) t) (hn : x ≠ "__name__" := by decide) (hdb : (x == ("__debug__" : Str)) = false := by decide)
    (he : starEach (e :: es) X.env = (false, eval e X.env) :: starEach es X.env := by rfl) (hpl : (backTo pos (starEach es X.env)).any (·.1) = false := by rfl) : PE X (.Call (.Name x p) (e :: es) [] pos) (tCB r t) := by
  intro pins s σ H Q I h
  refine wpAny_Call_Name_kw (ld_blt I hg hm hv ?_ hn hdb)
  exact PyProof.Rows.callWith_builtin1 (thn (ha pos pins s σ H _ I h) fun us s1 ⟨vs, H1, I1, r1, q1⟩ => hc pins s1 σ H1 vs us Q I1 r1 q1) he hpl
/-- T(e, ..), T a built-in type -/
theorem pe_callTy (hc : CallR X (.type T) r) (hg : Gl X x) (hm : X.mg x = none) (hv : bootBuiltins x = some (.type T)) (ha : PA X (e :: es) t) (hn : x ≠ "__name__" := by decide) (hdb : (x == ("__debug__" : Str)) = false := by decide)
    (he : starEach (e :: es) X.env = (false, eval e X.env) :: starEach es X.env := by rfl) (hpl : (backTo pos (starEach es X.env)).any (·.1) = false := by rfl) : PE X (.Call (.Name x p) (e :: es) [] pos) (tCB r t) := by
  intro pins s σ H Q I h
  refine wpAny_Call_Name_kw (ld_blt I hg hm hv ?_ hn hdb)
  exact PyProof.Rows.callWith_type1 (thn (ha pos pins s σ H _ I h) fun us s1 ⟨vs, H1, I1, r1, q1⟩ => hc pins s1 σ H1 vs us Q I1 r1 q1) he hpl
end
end L2

namespace HT
open PySem PyProof.Rows



section
open PySem.SeqAt
open PySem.AutoSeq1 (wpAny_loadPart')
open PySem.MeetsSeq PySem.MeetsSeq2 PySem.MeetsSeq3

end

section
variable {prog : Program} {w : World} {A : Around} {E : Value → Shared → Prop} {s : Shared}



/-! ### t[a:b], not the whole -/
/-- a slice's bound as a place among n (d where it is left out) -/
def sIx (n d : Nat) : Option Int → Nat
  | none => d
  | some v => if v < 0 then (v + (n : Int)).toNat else min v.toNat n

end
end HT

namespace L2
open PySem PySem.Spec PyProof.Rows

/-! ### the parts of a slice -/
abbrev TO := St → Hp → (Option Int → Hp → Prop) → Prop
/-- a slice's part (left out, or an int) -/
def PO (X : Cx) (e : Option Expr) (t : TO) : Prop :=
  ∀ (pins : List (Addr × Obj)) (s : Shared) (σ : St) (H : Hp) (Q : Option Int → Hp → Prop), Inv X pins σ H s → t σ H Q →
    wpAny (model X.prog X.w) X.A (evalPart e X.env) (fun u s' => ∃ o H', Inv X pins σ H' s' ∧ IsPart u o ∧ Q o H') X.xe s
def tNoPart : TO := fun _ H Q => Q none H
def tPart (t : TE) : TO := fun σ H Q => t σ H fun x H1 => ∃ i, x = .int i ∧ Q (some i) H1


section
variable {X : Cx} {e : Expr} {te : TE} {lo hi : Option Expr} {tl th : TO} {pos p2 : Pos}

theorem po_none : PO X none tNoPart := by
  intro pins s σ H Q I h
  rw [evalPart_none]
  exact wpAny_pure ⟨none, H, I, .none, h⟩
theorem po_some (h : PE X e te) : PO X (some e) (tPart te) := by
  intro pins s σ H Q I hw
  rw [evalPart_some]
  refine thn (h pins s σ H _ I hw) fun u s1 ⟨x, H1, I1, r1, q1⟩ => ?_
  obtain ⟨i, rfl, q⟩ := q1
  obtain ⟨t, rfl⟩ := r1
  exact ⟨some i, H1, I1, .int i t, q⟩

/-- what a slice of a value is, by values: the slice object stands at sl -/
def SlR (X : Cx) (r : V → Option Int → Option Int → Hp → VK → Prop) : Prop :=
  ∀ (pins : List (Addr × Obj)) (s : Shared) (σ : St) (H : Hp) (x : V) (v vl vu : Value) (lo hi : Option Int) (sl : Addr) (Q : VK), Inv X pins σ H s → RelV x v → s.heap.IsSliceOf sl vl vu .none → IsPart vl lo → IsPart vu hi → r x lo hi H Q →
    ∃ T id, typeLookup (.type T) "__getitem__" = pure (some (.builtin id)) ∧ s.TypeIs v T ∧ wpAny (model X.prog X.w) X.A (getItem v (.ref sl)) (EP X pins σ Q) X.xe s
def tSl (r : V → Option Int → Option Int → Hp → VK → Prop) (te : TE) (tl th : TO) : TE := fun σ H Q => te σ H fun x H1 => tl σ H1 fun l H2 => th σ H2 fun u H3 => r x l u H3 Q
/-- a[lo:hi], any a -/
theorem pe_slice {r : V → Option Int → Option Int → Hp → VK → Prop} (hr : SlR X r) (he : PE X e te) (hl : PO X lo tl) (hu : PO X hi th) : PE X (.Subscript e (.Slice lo hi none p2) pos) (tSl r te tl th) := by
  intro pins s σ H Q I h
  refine Subscript_ (thn (he pins s σ H _ I h) fun v s1 ⟨x, H1, I1, r1, q1⟩ => ?_)
  refine wpAny_Slice (thn (hl pins s1 σ H1 _ I1 q1) fun vl s2 ⟨l, H2, I2, pl, q2⟩ => thn (hu pins s2 σ H2 _ I2 q2) fun vu s3 ⟨u, H3, I3, pu, q3⟩ => ?_)
  rw [evalPart_none]
  refine wpAny_pure ?_
  have I4 : Inv X pins σ H3 { s3 with heap := s3.heap.push { cls := .type "slice", data := .fields #[vl, vu, .none] } } := I3.kept (t' := s3.toks) fun b ob q => Heap.get?_push_of_some _ q
  obtain ⟨T, id, hT, ht, hg⟩ := hr pins { s3 with heap := s3.heap.push { cls := .type "slice", data := .fields #[vl, vu, .none] } } σ H3 x v vl vu l u s3.heap.objs.size Q I4 r1 (Heap.IsSliceOf.new ..) pl pu q3
  show wpAny (model X.prog X.w) X.A (subscriptTail e (.Slice lo hi none p2) v (.ref s3.heap.objs.size)) (EP X pins σ Q) X.xe { s3 with heap := s3.heap.push { cls := .type "slice", data := .fields #[vl, vu, .none] } }
  exact tail_any (ops := [.ref s3.heap.objs.size, v]) ht hT hg (by with_unfolding_all rfl)

/-- the items of xs[lo:hi] -/
def cutV (xs : List V) (lo hi : Option Int) : List V := (xs.drop (HT.sIx xs.length 0 lo)).take (HT.sIx xs.length xs.length hi - HT.sIx xs.length 0 lo)
theorem cutV_length (xs : List V) (lo hi : Option Int) : (cutV xs lo hi).length ≤ xs.length := by
  unfold cutV
  rw [List.length_take, List.length_drop]
  omega

/-! ### t < u, t + u -/
end
end L2

namespace L2
open PySem PySem.Spec PyProof.Rows

/-! ### places -/
/-- the place that an index of any sign means -/
def ixN (n : Nat) (i : Int) : Option Nat := if 0 ≤ i then (if i < n then some i.toNat else none) else if -(n : Int) ≤ i then some (i + n).toNat else none
def atI {α : Type} (xs : List α) (i : Int) : Option α := (ixN xs.length i).bind fun j => xs[j]?
theorem ixN_seq {n : Nat} {i : Int} {j : Nat} (h : ixN n i = some j) : seqIndex? i n = some j ∧ j < n ∧ -(n : Int) ≤ i ∧ i < n := by
  unfold ixN at h
  by_cases h0 : 0 ≤ i
  · rw [if_pos h0] at h
    by_cases h1 : i < n
    · rw [if_pos h1] at h
      have e : i.toNat = j := Option.some.inj h
      exact ⟨by rw [seqIndex_of h0 h1, e], by omega, by omega, h1⟩
    · rw [if_neg h1] at h; cases h
  · rw [if_neg h0] at h
    by_cases h1 : -(n : Int) ≤ i
    · rw [if_pos h1] at h
      have e : (i + n).toNat = j := Option.some.inj h
      exact ⟨by rw [seqIndex_neg (by omega) h1, e], by omega, h1, by omega⟩
    · rw [if_neg h1] at h; cases h
theorem atI_get {α : Type} {xs : List α} {i : Int} {v : α} (h : atI xs i = some v) : ∃ j, seqIndex? i xs.length = some j ∧ xs[j]? = some v ∧ j < xs.length ∧ -(xs.length : Int) ≤ i ∧ i < xs.length := by
  unfold atI at h
  cases e : ixN xs.length i with
  | none => rw [e] at h; cases h
  | some j =>
    rw [e] at h
    obtain ⟨h1, h2, h3, h4⟩ := ixN_seq e
    exact ⟨j, h1, h, h2, h3, h4⟩
theorem atI_nat {α : Type} {xs : List α} {j : Nat} {v : α} (h : xs[j]? = some v) : atI xs (j : Int) = some v := by
  have hj : j < xs.length := (List.getElem?_eq_some_iff.mp h).1
  have e : ixN xs.length (j : Int) = some j := by
    unfold ixN
    rw [if_pos (by omega), if_pos (by omega)]; simp
  unfold atI; rw [e]; exact h

/-! ### what may be subscripted -/
/-- what stands as an index of a plain subscript -/
def PlainIx (b : Expr) : Prop := ∀ o i, subscripted b false o i = operate [o, i] (getItem o i)
/-- a subscript by values -/
def IxR (X : Cx) (r : R2) : Prop :=
  ∀ (value slice : Expr) (pins : List (Addr × Obj)) (s : Shared) (σ : St) (H : Hp) (x y : V) (v u : Value) (Q : VK), Inv X pins σ H s → RelV x v → RelV y u → r x y H Q →
    subscripted slice false v u = operate [v, u] (getItem v u) → wpAny (model X.prog X.w) X.A (subscriptTail value slice v u) (EP X pins σ Q) X.xe s
/-- a call of a builtin's method by values: the receiver, the arguments -/
def MtR (X : Cx) (id : String) (r : V → List V → Hp → VK → Prop) : Prop :=
  ∀ (pins : List (Addr × Obj)) (s : Shared) (σ : St) (H : Hp) (x : V) (xs : List V) (v : Value) (us : List Value) (Q : VK), Inv X pins σ H s → RelV x v → Vals xs us → r x xs H Q →
    wpAny (model X.prog X.w) X.A (call (.builtin id) (v :: us)) (EP X pins σ Q) X.xe s
section
variable {X : Cx} {a b : Expr} {ta tb : TE} {pos : Pos}
/-- a[b] -/
theorem pe_ix {r : R2} (hr : IxR X r) (ha : PE X a ta) (hb : PE X b tb) (hs : PlainIx b) : PE X (.Subscript a b pos) (tOp r ta tb) := by
  intro pins s σ H Q I h
  exact Subscript_ (binT ha hb I h fun v u s2 x y H2 I2 rx ry q => hr a b pins s2 σ H2 x y v u Q I2 rx ry q (hs _ _))

def rIxL (K : PySem.W.Frag) : R2 := fun x y H Q => ∃ p xs i v, x = .ref p ∧ y = .int i ∧ SqL K H p xs ∧ atI xs i = some v ∧ Q v H
def rIxT (K : PySem.W.Frag) : R2 := fun x y H Q => ∃ p xs i v, x = .ref p ∧ y = .int i ∧ SqT K H p xs ∧ atI xs i = some v ∧ Q v H
def rIxS : R2 := fun x y H Q => ∃ z i c, x = .str z ∧ y = .int i ∧ z.length ≤ sizeLine ∧ atI z.cps.toList i = some c ∧ Q (.str ⟨#[c]⟩) H
theorem ix_list : IxR X (rIxL X.K) := by
  intro value slice pins s σ H x y v u Q I rx ry h hs
  obtain ⟨p, xs, i, z, rfl, rfl, hq, he, q⟩ := h
  cases rx
  obtain ⟨t, rfl⟩ := ry
  obtain ⟨its, r, pl, hz⟩ := I.list hq
  obtain ⟨j, h1, h2, h3, h4, h5⟩ := atI_get he
  obtain ⟨w, ew, rw'⟩ := r.get h2
  have hl := r.length
  have hn := line63
  have fin : EP X pins σ Q w s := ⟨z, H, I, rw', q⟩
  by_cases h0 : 0 ≤ i
  · have hj : i.toNat = j := by
      rw [seqIndex_of h0 h5] at h1
      exact Option.some.inj h1
    exact item_listR pl.isList h0 (by omega) (by rw [hj]; simpa using ew) fin hs
  · have hj : (i + (its.toArray.size : Int)).toNat = j := by
      rw [seqIndex_neg (by omega) h4] at h1
      rw [List.size_toArray, ← hl]
      exact Option.some.inj h1
    exact subscriptTail_builtinR (x := w) pl.isList.typeIs slot_list_getitem.lookup
      (wpAny_getItem_list_neg (Q := fun r s' => r = w ∧ EP X pins σ Q r s') pl.isList (by omega) (by rw [List.size_toArray] <;> omega) (by omega) (by rw [hj]; simpa using ew) ⟨rfl, fin⟩) hs
theorem ix_tup : IxR X (rIxT X.K) := by
  intro value slice pins s σ H x y v u Q I rx ry h hs
  obtain ⟨p, xs, i, z, rfl, rfl, hq, he, q⟩ := h
  cases rx
  obtain ⟨t, rfl⟩ := ry
  obtain ⟨its, r, pl, hz⟩ := I.tuple hq
  obtain ⟨j, h1, h2, h3, h4, h5⟩ := atI_get he
  obtain ⟨w, ew, rw'⟩ := r.get h2
  have hl := r.length
  have hn := line63
  have fin : EP X pins σ Q w s := ⟨z, H, I, rw', q⟩
  exact subscriptTail_builtinR (x := w) pl.typeIs slot_tuple_getitem.lookup
    (getItem_tuple (j := j) (Q := fun r s' => r = w ∧ EP X pins σ Q r s') pl (by omega) (by omega) (by rw [List.size_toArray, ← hl]; exact h1) (by simpa using ew) ⟨rfl, fin⟩) hs
theorem ix_str : IxR X rIxS := by
  intro value slice pins s σ H x y v u Q I rx ry h hs
  obtain ⟨z, i, c, rfl, rfl, hz, he, q⟩ := h
  obtain ⟨t, rfl⟩ := rx
  obtain ⟨t', rfl⟩ := ry
  obtain ⟨j, h1, h2, h3, h4, h5⟩ := atI_get he
  have hl : z.cps.toList.length = z.length := by simp [Str.length]
  rw [hl] at h1 h4 h5
  have hn := line63
  exact tail_any (typeIs_str s z t) slot_str_getitem.lookup (getItem_str (c := c) (by
    have e1 : decide (i < -(2 ^ 63 : Int)) = false := decide_eq_false (by omega)
    have e2 : decide (i ≥ 2 ^ 63) = false := decide_eq_false (by omega)
    rw [e1, e2, Bool.or_false]) (by rw [h1]; simpa using h2) ⟨.str ⟨#[c]⟩, H, I.tok _, ⟨_, rfl⟩, q⟩) hs

/-! ### xs[i] = v, any sign -/
/-- the list's object behind a store -/
theorem mapSeq_set (its : List Value) (n j : Nat) (u : Value) : Obj.mapSeq (·.setIfInBounds j u) { cls := .type "list", data := .seq its.toArray n } = { cls := .type "list", data := .seq (its.set j u).toArray n } := by
  simp [Obj.mapSeq]
theorem Inv.lst {pins : List (Addr × Obj)} {σ : St} {H : Hp} {s : Shared} {p : Addr} {xs : List V} (I : Inv X pins σ H s) (h : H p = some (.lst xs)) :
    ∃ (its : List Value) (n : Nat), Vals xs its ∧ s.heap.get? p = some { cls := .type "list", data := .seq its.toArray n } ∧ xs.length ≤ sizeLine := by
  obtain ⟨z, its, n, r, e⟩ := I.hok p _ h
  exact ⟨its, n, r, e, z⟩
/-- the list at p is written by an update of its object -/
theorem Inv.lstUpd {pins : List (Addr × Obj)} {σ : St} {H : Hp} {s : Shared} {p : Addr} {xs ys : List V} {its its' : List Value} {n n' : Nat} {f : Obj → Obj} (I : Inv X pins σ H s) (h : H p = some (.lst xs))
    (ho : s.heap.get? p = some { cls := .type "list", data := .seq its.toArray n }) (hf : f { cls := .type "list", data := .seq its.toArray n } = { cls := .type "list", data := .seq its'.toArray n' }) (r : Vals ys its') (hz : ys.length ≤ sizeLine) (t : Nat) :
    Inv X pins σ (upd H p (.lst ys)) { s with heap := s.heap.update p f, toks := t } := by
  have e : (s.heap.update p f).get? p = some { cls := .type "list", data := .seq its'.toArray n' } := by
    rw [Heap.get?_update_self f ho (by rw [hf] <;> rfl), hf]
  refine I.write (x := p) (e := p) (by rw [h]; trivial) (.inl rfl) (fun b u hb q => (Heap.get?_update_other _ _ (Ne.symm hb)).trans q) ⟨_, e⟩ ?_
  exact ⟨hz, its', n', r, e⟩
def rSetL : V → V → V → Hp → (Hp → Prop) → Prop := fun o i v H Q => ∃ p xs k j, o = .ref p ∧ i = .int k ∧ H p = some (.lst xs) ∧ ixN xs.length k = some j ∧ Q (upd H p (.lst (xs.set j v)))
theorem set_list : PSet X rSetL := by
  intro pins s σ H o i v ov iv u Q I ro ri rv h
  obtain ⟨p, xs, k, j, rfl, rfl, hp, hj, q⟩ := h
  cases ro
  obtain ⟨t, rfl⟩ := ri
  obtain ⟨its, n, r, ho, hz⟩ := I.lst hp
  obtain ⟨h1, h2, h3, h4⟩ := ixN_seq hj
  have hl := r.length
  have hn := line63
  have I' : Inv X pins σ (upd H p (.lst (xs.set j v))) { s with heap := s.heap.update p (Obj.mapSeq (·.setIfInBounds j u)) } :=
    I.lstUpd hp ho (mapSeq_set its n j u) (r.set rv j) (by rw [List.length_set]; exact hz) s.toks
  by_cases h0 : 0 ≤ k
  · have hk : k.toNat = j := by
      rw [seqIndex_of h0 h4] at h1
      exact Option.some.inj h1
    exact PySem.W.ki_setAt ho h0 (by omega) (by rw [List.size_toArray, ← hl]; exact h4) (by rw [hk]; exact ⟨_, I', q⟩)
  · have hk : (k + (its.toArray.size : Int)).toNat = j := by
      rw [seqIndex_neg (by omega) h3] at h1
      rw [List.size_toArray, ← hl]
      exact Option.some.inj h1
    exact PySem.W.ki_setBack ho (by omega) (by rw [List.size_toArray, ← hl]; exact h3) (by omega) (by rw [hk]; exact ⟨_, I', q⟩)

/-! ### slices -/
theorem slice_bounds (lo hi : Option Int) (n : Nat) : (sliceBounds lo hi none n).1 = ((HT.sIx n 0 lo : Nat) : Int) ∧ (sliceBounds lo hi none n).2.1 = ((HT.sIx n n hi : Nat) : Int) ∧ (sliceBounds lo hi none n).2.2 = 1 := by
  refine ⟨?_, ?_, rfl⟩
  · cases lo with
    | none => simp [sliceBounds, HT.sIx]
    | some i =>
      simp only [sliceBounds, HT.sIx, Option.getD_none, show (1 : Int) > 0 by decide, if_true]
      by_cases h : i < 0
      · simp only [h, if_true] <;> omega
      · simp only [h, if_false] <;> omega
  · cases hi with
    | none => simp [sliceBounds, HT.sIx]
    | some i =>
      simp only [sliceBounds, HT.sIx, Option.getD_none, show (1 : Int) > 0 by decide, if_true]
      by_cases h : i < 0
      · simp only [h, if_true] <;> omega
      · simp only [h, if_false] <;> omega
theorem slicePick_cut (its : List Value) (lo hi : Option Int) : slicePick its.toArray lo hi none = ((its.drop (HT.sIx its.length 0 lo)).take (HT.sIx its.length its.length hi - HT.sIx its.length 0 lo)).toArray := by
  obtain ⟨h1, h2, h3⟩ := slice_bounds lo hi its.toArray.size
  unfold slicePick
  rw [h1, h2, h3]
  simp only [sliceRange_one, pick_run, List.size_toArray] <;> rfl
/-- xs[lo:hi] of a list: a new list -/
def rSlL (K : PySem.W.Frag) : V → Option Int → Option Int → Hp → VK → Prop := fun x lo hi H Q => ∃ a xs, x = .ref a ∧ SqL K H a xs ∧ ∀ p, H p = none → Q (.ref p) (upd H p (.lst (cutV xs lo hi)))
theorem sl_list : SlR X (rSlL X.K) := by
  intro pins s σ H x v vl vu lo hi sl Q I rx hs pl pu h
  obtain ⟨a, xs, rfl, hx, q⟩ := h
  cases rx
  obtain ⟨its, r, ht, hz⟩ := I.list hx
  have hlen := r.length
  refine ⟨"list", _, slot_list_getitem.lookup, ht.isList.typeIs, ?_⟩
  refine wpAny_getItem_list_slice ht.isList hs pl pu .none (by simp) ?_ (by rw [List.size_toArray] <;> omega)
  rw [slicePick_cut, ← hlen]
  refine ⟨.ref s.heap.objs.size, _, I.laid (t' := s.toks) (o := .lst (cutV xs lo hi)) (fun b ob q => Heap.get?_push_of_some _ q) (Nat.le_refl _) ?_, rfl, q _ (I.hok.fresh (Nat.le_refl _))⟩
  exact ⟨Nat.le_trans (cutV_length xs lo hi) hz, _, 0, (r.drop (HT.sIx xs.length 0 lo)).take (HT.sIx xs.length xs.length hi - HT.sIx xs.length 0 lo), Heap.get?_push_size _ rfl⟩

/-! ### in, not in: flat items -/
def flatV : V → Bool
  | .non => true
  | .bl _ => true
  | .int _ => true
  | .str _ => true
  | _ => false
/-- == of flat values -/
def eqV : V → V → Bool
  | .non, .non => true
  | .bl a, .bl b => a == b
  | .bl a, .int b => (if a then 1 else 0) == b
  | .int a, .bl b => a == (if b then 1 else 0)
  | .int a, .int b => a == b
  | .str a, .str b => a == b
  | _, _ => false
theorem eqAt_V {A : Around} {s : Shared} {y x : V} {u v : Value} (ry : RelV y u) (rx : RelV x v) (fy : flatV y = true) (fx : flatV x = true) : SeqAt.EqAt A s u v (eqV y x) := by
  cases y with
  | non =>
    cases ry
    cases x with
    | non => cases rx; exact SeqAt.EqAt.same _
    | bl b => cases rx; exact SeqAt.EqAt.none_bool b
    | int b => obtain ⟨t, rfl⟩ := rx; exact SeqAt.EqAt.none_int b t
    | str b => obtain ⟨t, rfl⟩ := rx; exact SeqAt.EqAt.none_str b t
    | _ => exact absurd (show false = true from fx) Bool.false_ne_true
  | bl a =>
    cases ry
    cases x with
    | non => cases rx; exact SeqAt.EqAt.bool_none a
    | bl b => cases rx; exact SeqAt.EqAt.bool_bool a b
    | int b => obtain ⟨t, rfl⟩ := rx; exact SeqAt.EqAt.bool_int a b t
    | str b => obtain ⟨t, rfl⟩ := rx; exact SeqAt.EqAt.bool_str a b t
    | _ => exact absurd (show false = true from fx) Bool.false_ne_true
  | int a =>
    obtain ⟨t', rfl⟩ := ry
    cases x with
    | non => cases rx; exact SeqAt.EqAt.int_none a t'
    | bl b => cases rx; exact SeqAt.EqAt.int_bool a t' b
    | int b => obtain ⟨t, rfl⟩ := rx; exact SeqAt.EqAt.int_int a t' b t
    | str b => obtain ⟨t, rfl⟩ := rx; exact SeqAt.EqAt.int_str a t' b t
    | _ => exact absurd (show false = true from fx) Bool.false_ne_true
  | str a =>
    obtain ⟨t', rfl⟩ := ry
    cases x with
    | non => cases rx; exact SeqAt.EqAt.str_none a t'
    | bl b => cases rx; exact SeqAt.EqAt.str_bool a t' b
    | int b => obtain ⟨t, rfl⟩ := rx; exact SeqAt.EqAt.str_int a t' b t
    | str b => obtain ⟨t, rfl⟩ := rx; exact SeqAt.EqAt.str_str a t' b t
    | _ => exact absurd (show false = true from fx) Bool.false_ne_true
  | _ => exact absurd (show false = true from fy) Bool.false_ne_true
/-- the items' answers, read off the values (a value's own answer does not lean on its token) -/
def eqU (x : V) (u : Value) : Bool := match u with
  | .none => eqV .non x
  | .bool b => eqV (.bl b) x
  | .int i _ => eqV (.int i) x
  | .str z _ => eqV (.str z) x
  | _ => false
theorem eqU_of {x y : V} {u : Value} (r : RelV y u) (f : flatV y = true) : eqU x u = eqV y x := by
  cases y with
  | non => cases r; rfl
  | bl b => cases r; rfl
  | int i => obtain ⟨t, rfl⟩ := r; rfl
  | str z => obtain ⟨t, rfl⟩ := r; rfl
  | _ => exact absurd (show false = true from f) Bool.false_ne_true
theorem any_eqU {x : V} : ∀ {xs : List V} {us : List Value}, Vals xs us → xs.all flatV = true → us.any (eqU x) = xs.any fun y => eqV y x
  | _, _, .nil, _ => rfl
  | y :: xs, u :: us, .cons r t, f => by
    rw [List.all_cons, Bool.and_eq_true] at f
    rw [List.any_cons, List.any_cons, eqU_of r f.1, any_eqU t f.2]
theorem mem_eqAt {A : Around} {s : Shared} {x : V} {v : Value} (rx : RelV x v) (fx : flatV x = true) : ∀ {xs : List V} {us : List Value}, Vals xs us → xs.all flatV = true → ∀ u ∈ us, SeqAt.EqAt A s u v (eqU x u)
  | _, _, .nil, _ => fun u hu => by cases hu
  | y :: xs, u :: us, .cons r t, f => fun u' hu => by
    rw [List.all_cons, Bool.and_eq_true] at f
    rcases List.mem_cons.mp hu with rfl | hu
    · rw [eqU_of r f.1]; exact eqAt_V r rx f.1 fx
    · exact mem_eqAt rx fx t f.2 u' hu
def inV (x : V) (xs : List V) : Bool := xs.any fun y => eqV y x
/-- x in a list or tuple of flat items -/
def rIn (K : PySem.W.Frag) (neg : Bool) : R2 := fun x y H Q => ∃ p xs, y = .ref p ∧ (SqL K H p xs ∨ SqT K H p xs) ∧ flatV x = true ∧ xs.all flatV = true ∧ Q (.bl (if neg then !inV x xs else inV x xs)) H
theorem op_in_seq : OpR X (compareOp .In) (rIn X.K false) := by
  intro pins s σ H x y v u Q I rx ry h
  obtain ⟨p, xs, rfl, hq, fx, fs, q⟩ := h
  cases ry
  rcases hq with hq | hq
  · obtain ⟨its, r, pl, hz⟩ := I.list hq
    refine SeqAt.in_listAt (eqU x) pl.isList (fun w hw => mem_eqAt rx fx r fs w (by simpa using hw)) ⟨.bl _, H, I, rfl, ?_⟩
    rw [show its.toArray.any (eqU x) = its.any (eqU x) by simp, any_eqU r fs]
    exact q
  · obtain ⟨its, r, pl, hz⟩ := I.tuple hq
    refine SeqAt.in_tupleAt (eqU x) pl (fun w hw => mem_eqAt rx fx r fs w (by simpa using hw)) ⟨.bl _, H, I, rfl, ?_⟩
    rw [show its.toArray.any (eqU x) = its.any (eqU x) by simp, any_eqU r fs]
    exact q
theorem op_notIn_seq : OpR X (compareOp .NotIn) (rIn X.K true) := by
  intro pins s σ H x y v u Q I rx ry h
  obtain ⟨p, xs, rfl, hq, fx, fs, q⟩ := h
  cases ry
  rcases hq with hq | hq
  · obtain ⟨its, r, pl, hz⟩ := I.list hq
    refine SeqAt.notIn_listAt (eqU x) pl.isList (fun w hw => mem_eqAt rx fx r fs w (by simpa using hw)) ⟨.bl _, H, I, rfl, ?_⟩
    rw [show its.toArray.any (eqU x) = its.any (eqU x) by simp, any_eqU r fs]
    exact q
  · obtain ⟨its, r, pl, hz⟩ := I.tuple hq
    refine SeqAt.notIn_tupleAt (eqU x) pl (fun w hw => mem_eqAt rx fx r fs w (by simpa using hw)) ⟨.bl _, H, I, rfl, ?_⟩
    rw [show its.toArray.any (eqU x) = its.any (eqU x) by simp, any_eqU r fs]
    exact q

/-! ### len, list(x), tuple(x) of any list or tuple that is read -/
theorem call_len_seq : CallR X (.builtin "len") (fun xs H Q => ∃ p ys, xs = [.ref p] ∧ (SqL X.K H p ys ∨ SqT X.K H p ys) ∧ Q (.int ys.length) H) := by
  intro pins s σ H xs us Q I r h
  obtain ⟨p, ys, rfl, hq, q⟩ := h
  obtain ⟨u, rfl, rx⟩ := vals1 r
  cases rx
  have hn := line63
  rcases hq with hq | hq
  · obtain ⟨its, r', pl, hz⟩ := I.list hq
    have hlen := r'.length
    exact Calls.call_len_list pl.isList (by simp only [List.size_toArray] <;> omega) ⟨.int ys.length, H, I.tok _, ⟨s.toks + 1, by rw [List.size_toArray, hlen]⟩, q⟩
  · obtain ⟨its, r', pl, hz⟩ := I.tuple hq
    have hlen := r'.length
    exact len_tuple pl (by simp only [List.size_toArray] <;> omega) ⟨.int ys.length, H, I.tok _, ⟨s.toks + 1, by rw [List.size_toArray, hlen]⟩, q⟩
theorem call_len_str : CallR X (.builtin "len") (fun xs H Q => ∃ z, xs = [.str z] ∧ z.length ≤ sizeLine ∧ Q (.int z.length) H) := by
  intro pins s σ H xs us Q I r h
  obtain ⟨z, rfl, hz, q⟩ := h
  obtain ⟨u, rfl, t, rfl⟩ := vals1 r
  have hn := line63
  exact len_str (by omega) ⟨.int z.length, H, I.tok _, ⟨_, rfl⟩, q⟩
theorem call_list_of : CallR X (.type "list") (fun xs H Q => ∃ p ys, xs = [.ref p] ∧ (SqL X.K H p ys ∨ SqT X.K H p ys) ∧ ∀ l, H l = none → Q (.ref l) (upd H l (.lst ys))) := by
  intro pins s σ H xs us Q I r h
  obtain ⟨p, ys, rfl, hq, q⟩ := h
  obtain ⟨u, rfl, rx⟩ := vals1 r
  cases rx
  have fin : ∀ (its : List Value), Vals ys its → ys.length ≤ sizeLine → ∀ (h' : Heap) (c' : Nat), (∀ b o', s.heap.get? b = some o' → h'.get? b = some o') →
      h'.get? s.heap.objs.size = some { cls := .type "list", dict := none, data := .seq its.toArray c', slots := #[] } → EP X pins σ Q (.ref s.heap.objs.size) { s with heap := h' } := fun its r' hz h' c' kp e =>
    ⟨.ref s.heap.objs.size, _, I.laid (t' := s.toks) kp (Nat.le_refl _) (show ObjOk X.prog X.w _ h' _ (.lst ys) from ⟨hz, its, c', r', e⟩), rfl, q _ (I.hok.fresh (Nat.le_refl _))⟩
  rcases hq with hq | hq
  · obtain ⟨its, r', pl, hz⟩ := I.list hq
    have hlen := r'.length
    obtain ⟨o, ho, hc, n, hd⟩ := pl.isList
    exact call_list_seq p (.inl rfl) ho hc hd (fun h' c' kp e => fin its r' hz h' c' kp e) (by simp only [List.size_toArray] <;> omega)
  · obtain ⟨its, r', pl, hz⟩ := I.tuple hq
    have hlen := r'.length
    obtain ⟨o, ho, hc, n, hd⟩ := pl
    exact call_list_seq p (.inr rfl) ho hc hd (fun h' c' kp e => fin its r' hz h' c' kp e) (by simp only [List.size_toArray] <;> omega)
theorem call_tuple_of : CallR X (.type "tuple") (fun xs H Q => ∃ p ys, xs = [.ref p] ∧ ((SqL X.K H p ys ∧ ∀ l, H l = none → Q (.ref l) (upd H l (.tup ys))) ∨ (SqT X.K H p ys ∧ Q (.ref p) H))) := by
  intro pins s σ H xs us Q I r h
  obtain ⟨p, ys, rfl, h⟩ := h
  obtain ⟨u, rfl, rx⟩ := vals1 r
  cases rx
  rcases h with ⟨hq, q⟩ | ⟨hq, q⟩
  · obtain ⟨its, r', pl, hz⟩ := I.list hq
    have hlen := r'.length
    refine call_tuple_list pl.isList (fun h' kp => ?_) (by simp only [List.size_toArray] <;> omega)
    have I1 : Inv X pins σ H { s with heap := h' } := I.kept (t' := s.toks) kp
    have I2 : Inv X pins σ (upd H h'.objs.size (.tup ys)) { s with heap := h'.push { cls := .type "tuple", data := .seq its.toArray } } :=
      I1.laid (t' := s.toks) (fun b o e => Heap.get?_push_of_some _ e) (Nat.le_refl _) (show ObjOk X.prog X.w _ _ _ (.tup ys) from ⟨hz, its, r', IsTup.new _ _⟩)
    exact ⟨.ref h'.objs.size, _, I2, rfl, q _ (I1.hok.fresh (Nat.le_refl _))⟩
  · obtain ⟨its, r', pl, hz⟩ := I.tuple hq
    exact call_tuple_same pl ⟨.ref p, H, I, rfl, q⟩

/-! ### the call of a builtin's method: o.m(..) -/
/-- the value is of that builtin type -/
def tyV (K : PySem.W.Frag) (T : String) (x : V) (H : Hp) : Prop := match x with
  | .str _ => T = "str"
  | .int _ => T = "int"
  | .ref p => (T = "list" ∧ ∃ xs, SqL K H p xs) ∨ (T = "tuple" ∧ ∃ o, K.lookup p = some o ∧ o.cls = .type "tuple" ∧ o.dict = none) ∨
      (T = "dict" ∧ ((∃ kvs, H p = some (.dK kvs)) ∨ ∃ kvs, H p = some (.dT kvs))) ∨ (T = "set" ∧ ∃ S n, H p = some (.set S n))
  | _ => False
theorem tyV_is {pins : List (Addr × Obj)} {σ : St} {H : Hp} {s : Shared} {T : String} {x : V} {v : Value} (I : Inv X pins σ H s) (r : RelV x v) (ty : tyV X.K T x H) :
    s.TypeIs v T ∧ ∀ a, v = .ref a → ∃ ob, s.heap.get? a = some ob ∧ ob.dict = none := by
  cases x with
  | str z =>
    obtain ⟨t, rfl⟩ := r
    cases (show T = "str" from ty)
    exact ⟨typeIs_str s z t, fun _ e => nomatch e⟩
  | int i =>
    obtain ⟨t, rfl⟩ := r
    cases (show T = "int" from ty)
    exact ⟨typeIs_int s i t, fun _ e => nomatch e⟩
  | ref p =>
    cases r
    rcases ty with ⟨rfl, xs, hq⟩ | ⟨rfl, o, hk, hc, hd⟩ | ⟨rfl, hk⟩ | ⟨rfl, S, n, hk⟩
    · obtain ⟨its, _, pl, _⟩ := I.list hq
      refine ⟨pl.isList.typeIs, fun a e => ?_⟩
      cases e
      obtain ⟨o, n, e, c, hd, _⟩ := pl
      exact ⟨o, e, hd⟩
    · refine ⟨⟨o, I.kIn p o hk, hc⟩, fun a e => ?_⟩
      cases e
      exact ⟨o, I.kIn _ o hk, hd⟩
    · have z : ∃ o, s.heap.get? p = some o ∧ o.ExactDict := by
        rcases hk with ⟨kvs, hk⟩ | ⟨kvs, hk⟩
        · obtain ⟨_, _, _, _, o, _, _, e, ex, _⟩ := I.hok p _ hk
          exact ⟨o, e, ex⟩
        · obtain ⟨_, _, _, _, o, _, _, e, ex, _⟩ := I.hok p _ hk
          exact ⟨o, e, ex⟩
      obtain ⟨o, e, ex⟩ := z
      refine ⟨⟨o, e, ex.1⟩, fun a e2 => ?_⟩
      cases e2
      exact ⟨o, e, ex.2.1⟩
    · obtain ⟨o, _, _, _, e, ex, _⟩ := I.hok p _ hk
      refine ⟨⟨o, e, ex.1⟩, fun a e2 => ?_⟩
      cases e2
      exact ⟨o, e, ex.2.1⟩
  | _ => exact False.elim ty
def tBM (K : PySem.W.Frag) (T : String) (r : V → List V → Hp → VK → Prop) (to : TE) (t : TA) : TE := fun σ H Q => to σ H fun x H1 => tyV K T x H1 ∧ t σ H1 fun xs H2 => r x xs H2 Q
variable {o e : Expr} {es : List Expr} {to : TE} {t : TA} {name : Str} {apos cpos : Pos} {T id : String} {r : V → List V → Hp → VK → Prop}
theorem pe_bm (pa : PlainAttrs T) (slot : Slot T name id) (hty : typeOf (.builtin id) = pure (.type "method_descriptor")) (hm : MtR X id r) (ho : PE X o to) (ha : PA X (e :: es) t)
    (hbase : attributeBase o name X.env (eval o X.env) = eval o X.env := by rfl)
    (hfew : ((backTo cpos (starEach (e :: es) X.env)).all (fun x => !x.1) && (backToKw cpos (keywordEach [] X.env)).all (fun x => x.1.isSome)
      && decide ((e :: es).length + ([] : List Keyword).length + (if ([] : List Keyword).isEmpty then 0 else 1) < 30)) = true := by rfl)
    (hline : (apos.endLine == cpos.line) = true := by rfl) (hs : starEach (e :: es) X.env = (false, eval e X.env) :: starEach es X.env := by rfl) (hplain : (backTo cpos (starEach es X.env)).any (·.1) = false := by rfl) :
    PE X (.Call (.Attribute o name apos) (e :: es) [] cpos) (tBM X.K T r to t) := by
  intro pins s σ H Q I h
  refine wpAny_Call_method_late hbase hfew hline rfl (thn (ho pins s σ H _ I h) fun v s1 ⟨x, H1, I1, r1, ty, q1⟩ => ?_)
  obtain ⟨h1, h2⟩ := tyV_is I1 r1 ty
  refine ⟨T, id, pa, slot, hty, h1, h2, ?_⟩
  have hA := ha cpos pins s1 σ H1 _ I1 q1
  rw [hs] at hA ⊢
  refine Calls.callWith_builtin (by show (false || (backTo cpos (starEach es X.env)).any (·.1)) = false; rw [hplain] <;> rfl) (Calls.evalArgs_plain ?_)
  exact thn hA fun us s2 ⟨vs, H2, I2, r2, q2⟩ => hm pins s2 σ H2 x vs v us Q I2 r1 r2 q2
/- xs.append(e), list.index on a module's tuple .. are MtR facts of 06m -/
end
end L2

namespace L2
open PySem PySem.Spec PyProof.Rows

def MtM (X : Cx) (id : String) (r : V → List V → Hp → VK → Prop) : Prop :=
  ∀ (pins : List (Addr × Obj)) (s : Shared) (σ : St) (H : Hp) (x : V) (xs : List V) (v : Value) (us : List Value) (Q : VK), Inv X pins σ H s → RelV x v → Vals xs us → r x xs H Q →
    wpAny (model X.prog X.w) X.A (call (.builtin id) (v :: us)) (EP X pins σ Q) X.xe s

/-! ### lists of values -/
theorem Vals.one : ∀ {x : V} {us : List Value}, Vals [x] us → ∃ u, us = [u] ∧ RelV x u
  | _, _, .cons r .nil => ⟨_, rfl, r⟩
theorem Vals.eraseIdx : ∀ {xs : List V} {us : List Value} (i : Nat), Vals xs us → Vals (xs.eraseIdx i) (us.eraseIdx i)
  | _, _, _, .nil => .nil
  | _, _, 0, .cons _ t => t
  | _, _, i + 1, .cons r t => .cons r (Vals.eraseIdx i t)
theorem Vals.rep {xs : List V} {us : List Value} (h : Vals xs us) : ∀ k : Nat, Vals (List.replicate k xs).flatten (List.replicate k us).flatten
  | 0 => .nil
  | k + 1 => by
    rw [List.replicate_succ, List.replicate_succ, List.flatten_cons, List.flatten_cons]
    exact Vals.append h (Vals.rep h k)
theorem len_erase {α : Type} : ∀ (l : List α) (i : Nat), (l.eraseIdx i).length ≤ l.length
  | [], _ => Nat.le_refl _
  | _ :: _, 0 => Nat.le_succ _
  | _ :: r, i + 1 => Nat.succ_le_succ (len_erase r i)
theorem foldl_rep (its : List Value) : ∀ (k : Nat) (acc : List Value),
    List.foldl (fun x1 x2 => x1 ++ x2) acc.toArray (List.replicate k its.toArray) = (acc ++ (List.replicate k its).flatten).toArray
  | 0, acc => by simp
  | k + 1, acc => by
    have e : acc.toArray ++ its.toArray = (acc ++ its).toArray := by simp
    have e2 : (acc ++ its) ++ (List.replicate k its).flatten = acc ++ (List.replicate (k + 1) its).flatten := by
      rw [List.replicate_succ, List.flatten_cons, List.append_assoc]
    rw [← e2, ← foldl_rep its k (acc ++ its), ← e, List.replicate_succ, List.foldl_cons]

section
variable {X : Cx} {pins : List (Addr × Obj)} {σ : St} {H : Hp} {s : Shared} {l b : Addr} {xs ys zs : List V}

/-! ### the two steps: a tracked list is rewritten, a new list is laid -/
theorem Inv.lset {its its' : List Value} {n : Nat} {f : Array Value → Array Value} {t' : Nat} (I : Inv X pins σ H s) (hH : H l = some (.lst xs))
    (e : s.heap.get? l = some { cls := .type "list", data := .seq its.toArray n }) (hf : f its.toArray = its'.toArray) (hv : Vals ys its') (hz : ys.length ≤ sizeLine) :
    Inv X pins σ (upd H l (.lst ys)) { s with heap := s.heap.update l (Obj.mapSeq f), toks := t' } := by
  have q := PySem.IsL.update e f
  rw [hf] at q
  refine I.write (x := l) (e := l) (by rw [hH]; exact trivial) (.inl rfl) (fun b' u hb hu => (Heap.get?_update_other s.heap (Obj.mapSeq f) (Ne.symm hb)).trans hu) ⟨_, q⟩ ?_
  exact ⟨hz, its', _, hv, q⟩
theorem Inv.lnew {its : List Value} {t' : Nat} (I : Inv X pins σ H s) (hv : Vals ys its) (hz : ys.length ≤ sizeLine) :
    Inv X pins σ (upd H s.heap.objs.size (.lst ys)) { s with heap := s.heap.push { cls := .type "list", data := .seq its.toArray }, toks := t' } :=
  I.laid (fun _ _ q => Heap.get?_push_of_some _ q) (Nat.le_refl _) ⟨hz, its, 0, hv, Heap.get?_push_size _ rfl⟩
theorem Inv.fresh (I : Inv X pins σ H s) : H s.heap.objs.size = none := I.hok.fresh (Nat.le_refl _)
theorem Inv.lstM (I : Inv X pins σ H s) (hH : H l = some (.lst xs)) : xs.length ≤ sizeLine ∧ ∃ (its : List Value) (n : Nat), Vals xs its ∧ xs.length = its.length ∧ s.heap.get? l = some { cls := .type "list", data := .seq its.toArray n } := by
  obtain ⟨z, its, n, r, e⟩ := I.hok l _ hH
  exact ⟨z, its, n, r, r.length, e⟩

theorem notLongL {n : Nat} (h : n ≤ sizeLine) : Builtin.List.listTooLong n = false := by
  unfold Builtin.List.listTooLong
  exact decide_eq_false (by omega)
end

section
variable {X : Cx}

/-! ### methods -/
def rAppend : V → List V → Hp → VK → Prop := fun x vs H Q => ∃ l xs y, x = .ref l ∧ vs = [y] ∧ H l = some (.lst xs) ∧ xs.length < sizeLine ∧ Q .non (upd H l (.lst (xs ++ [y])))
theorem mt_append : MtM X "list.append" rAppend := by
  intro pins s σ H x vs v us Q I rx rv h
  obtain ⟨l, xs, y, rfl, rfl, hH, hz, q⟩ := h
  cases rx
  obtain ⟨u, rfl, ru⟩ := rv.one
  obtain ⟨z, its, n, r, hl, e⟩ := I.lstM hH
  refine call_meets F.slot_list_append ⟨_, e, rfl⟩ F.entry_list_append (F.args_list_append_2 _ _) (PySem.list_append l its.toArray n u (by rw [List.size_toArray]; omega)) ⟨e, ?_⟩
  refine ⟨.non, _, I.lset (its' := its ++ [u]) hH e (by simp) (r.append (.cons ru .nil)) ?_, rfl, q⟩
  rw [List.length_append, List.length_singleton]
  omega

def rExtend : V → List V → Hp → VK → Prop := fun x vs H Q => ∃ l b xs zs, x = .ref l ∧ vs = [.ref b] ∧ H l = some (.lst xs) ∧ H b = some (.lst zs) ∧ xs.length + zs.length ≤ sizeLine ∧ Q .non (upd H l (.lst (xs ++ zs)))
theorem mt_extend : MtM X "list.extend" rExtend := by
  intro pins s σ H x vs v us Q I rx rv h
  obtain ⟨l, b, xs, zs, rfl, rfl, hH, hB, hz, q⟩ := h
  cases rx
  obtain ⟨u, rfl, ru⟩ := rv.one
  cases ru
  obtain ⟨z, its, n, r, hl, e⟩ := I.lstM hH
  obtain ⟨z2, its2, n2, r2, hl2, e2⟩ := I.lstM hB
  have hsz : its.toArray.size + its2.toArray.size ≤ sizeLine := by rw [List.size_toArray, List.size_toArray]; omega
  have hlong : ¬ (!its.toArray.isEmpty && Builtin.List.listTooLong (its.toArray.size + its2.toArray.size)) = true := by
    rw [notLongL hsz, Bool.and_false]
    exact Bool.false_ne_true
  refine call_meets F.slot_list_extend ⟨_, e, rfl⟩ F.entry_list_extend (F.args_list_extend_2 _ _)
    (AutoSeq1.list_extend_list_list_0 l its.toArray n b its2.toArray n2 hlong (by rw [List.size_toArray]; omega) (by omega)) ⟨e, e2, ?_⟩
  refine ⟨.non, _, I.lset (its' := its ++ its2) hH e (by simp) (r.append r2) ?_, rfl, q⟩
  rw [List.length_append]
  omega


def rPopAt : V → List V → Hp → VK → Prop := fun x vs H Q => ∃ l xs i k y, x = .ref l ∧ vs = [.int i] ∧ H l = some (.lst xs) ∧ -(2 ^ 63) ≤ i ∧ i < 2 ^ 63 ∧ seqIndex? i xs.length = some k ∧ xs[k]? = some y ∧ Q y (upd H l (.lst (xs.eraseIdx k)))
theorem mt_popAt : MtM X "list.pop" rPopAt := by
  intro pins s σ H x vs v us Q I rx rv h
  obtain ⟨l, xs, i, k, y, rfl, rfl, hH, h1, h2, hk, hy, q⟩ := h
  cases rx
  obtain ⟨u, rfl, ru⟩ := rv.one
  obtain ⟨t, rfl⟩ := ru
  obtain ⟨z, its, n, r, hl, e⟩ := I.lstM hH
  obtain ⟨w, hw, rw'⟩ := r.get hy
  refine call_meets F.slot_list_pop ⟨_, e, rfl⟩ F.entry_list_pop (F.args_list_pop_2 _ _)
    (MeetsSeq.list_pop_at l its.toArray n i t k w (fitsIndex_both h1 h2) (by rw [List.size_toArray, ← hl]; exact hk) (by rw [← Array.getElem?_toList]; exact hw) (by rw [List.size_toArray]; omega)) ⟨e, ?_⟩
  refine ⟨y, _, I.lset (its' := its.eraseIdx k) hH e ?_ (r.eraseIdx k) ?_, rw', q⟩
  · show its.toArray.eraseIdxIfInBounds k = (its.eraseIdx k).toArray
    rw [List.eraseIdxIfInBounds_toArray]
  · have := len_erase xs k
    omega



/-! ### list + list, list += list, list * int -/
def rCat : R2 := fun x y H Q => ∃ l b xs zs, x = .ref l ∧ y = .ref b ∧ H l = some (.lst xs) ∧ H b = some (.lst zs) ∧ xs.length + zs.length ≤ sizeLine ∧ ∀ p, H p = none → Q (.ref p) (upd H p (.lst (xs ++ zs)))
theorem op_cat : OpR X (binaryOp .Add) rCat := by
  intro pins s σ H x y v u Q I rx ry h
  obtain ⟨l, b, xs, zs, rfl, rfl, hH, hB, hz, q⟩ := h
  cases rx
  cases ry
  obtain ⟨z, its, n, r, hl, e⟩ := I.lstM hH
  obtain ⟨z2, its2, n2, r2, hl2, e2⟩ := I.lstM hB
  refine PySem.P.add_list e e2 ?_ (by rw [List.size_toArray, List.size_toArray]; omega)
  have ea : its.toArray ++ its2.toArray = (its ++ its2).toArray := by simp
  rw [ea]
  exact ⟨.ref _, _, I.lnew (t' := s.toks) (r.append r2) (by rw [List.length_append]; omega), rfl, q _ I.fresh⟩
/-- a list times an int (a negative one is nothing) -/
def rRep : R2 := fun x y H Q => ∃ l k xs, x = .ref l ∧ y = .int k ∧ H l = some (.lst xs) ∧ -(2 ^ 63) ≤ k ∧ k < 2 ^ 63 ∧ xs.length * k.toNat ≤ sizeLine ∧
  ∀ p, H p = none → Q (.ref p) (upd H p (.lst (List.replicate k.toNat xs).flatten))
theorem len_rep {α : Type} (xs : List α) (k : Nat) : (List.replicate k xs).flatten.length = k * xs.length := by
  induction k with
  | zero => simp
  | succ k ih => rw [List.replicate_succ, List.flatten_cons, List.length_append, ih, Nat.succ_mul, Nat.add_comm]
theorem op_rep : OpR X (binaryOp .Mult) rRep := by
  intro pins s σ H x y v u Q I rx ry h
  obtain ⟨l, k, xs, rfl, rfl, hH, h1, h2, hz, q⟩ := h
  cases rx
  obtain ⟨t, rfl⟩ := ry
  obtain ⟨z, its, n, r, hl, e⟩ := I.lstM hH
  have hlen : its.toArray.size * k.toNat ≤ sizeLine := by rw [List.size_toArray, ← hl]; exact hz
  have hcap : ¬ its.toArray.size * k.toNat > (2 ^ 63 - 1) / 8 := by
    have : (sizeLine : Nat) ≤ (2 ^ 63 - 1) / 8 := by decide
    omega
  have hfit : ¬ (!Builtin.List.listFitsIndex k) = true := by
    rw [fitsIndex_both h1 h2]
    exact Bool.false_ne_true
  have hlong : ¬ Builtin.List.listTooLong (its.toArray.size * k.toNat) = true := by
    rw [notLongL hlen]
    exact Bool.false_ne_true
  have hnew : List.foldl (fun x1 x2 => x1 ++ x2) #[] (List.replicate (if its.toArray.isEmpty = true then 0 else k.toNat) its.toArray) = (List.replicate k.toNat its).flatten.toArray := by
    have f0 : ∀ m : Nat, List.foldl (fun x1 x2 => x1 ++ x2) #[] (List.replicate m its.toArray) = (List.replicate m its).flatten.toArray := fun m => by
      have := foldl_rep its m []
      rw [List.nil_append] at this
      exact this
    rw [f0]
    cases its with
    | nil => simp
    | cons a r' => rw [if_neg (by simp)]
  refine wpAny_binaryOp_repeat_ref (T := "list") (U := "int") (by decide) ⟨_, e, rfl⟩ (fun s' => typeIs_int s' k t) noFill_list_mul F.fills_int_mul F.slot_int_rmul repeat_list F.slot_int_index.lookup
    (call_meets F.slot_int_rmul (typeIs_int s k t) F.entry_int_rmul (F.args_int_rmul_2 _ _) (int___rmul___int_list k t l its.toArray n)
      ⟨e, rfl, ⟨_, e, rfl⟩, call_meets F.slot_list_mul ⟨_, e, rfl⟩ F.entry_list_mul (F.args_list_mul_2 _ _) (AutoListH.list___mul___list_int_3 l its.toArray n k t hfit hcap hlong) ⟨e, ?_⟩⟩)
  rw [hnew]
  exact ⟨.ref _, _, I.lnew (t' := s.toks) (r.rep k.toNat) (by rw [len_rep, Nat.mul_comm]; exact hz), rfl, q _ I.fresh⟩

/-! ### del xs[i] -/
end

/-! ### xs[a:b] = ys -/
section
variable {prog : Program} {w : World} {A : Around} {E : Value → Shared → Prop} {s : Shared}
set_option maxRecDepth 100000 in
end

section
variable {X : Cx}
end
end L2

namespace Att
open PySem PySem.W PySem.Calls PyProof.Rows

/-! ### the script -/
theorem ints_of_wellAll {P : Params} {h : Heap} : ∀ (ns : List Int) (vs : List Value), WellAll P h vs (ns.map WData.int) → IntsAre vs ns := by
  intro ns
  induction ns with
  | nil =>
    intro vs w
    rw [List.map_nil] at w
    cases w
    exact .nil
  | cons n ns ih =>
    intro vs w
    rw [List.map_cons] at w
    cases w with
    | cons a b =>
      cases a
      exact .cons _ _ (ih _ b)

theorem script_of {l : OpenLaw} {n : Nat} (hn : l.most = some n) {P : Params} {h : Heap} {args : List WData} {vals : List Value}
    (hpre : l.row.toRowW.claim.pre args = true) (hwl : WellAll P h vals args) :
    ∃ a vs ns, vals = [Value.ref a] ∧ args = [WData.list (ns.map WData.int)] ∧ h.get? a = some { cls := .type "list", data := .seq vs.toArray } ∧ IntsAre vs ns ∧ ns.length ≤ n := by
  have hsh : WShape.hasAll [] args [.list .int] = true := (pre_splitW hpre).1
  have hc : l.pre.holds [] { args := args } = true := (pre_splitW hpre).2
  obtain ⟨d, r, rfl, h1, h2⟩ := hasAllW_cons hsh
  obtain rfl := hasAllW_nil h2
  obtain ⟨xs, rfl, h3⟩ := hasW_list h1
  obtain ⟨ns, rfl⟩ := items_int h3
  have hlen : ns.length ≤ n := by
    unfold OpenLaw.pre at hc
    have h4 : (WTm.not (.lt (.lit (.int (n : Int))) (.len (.arg 0)))).holds [] { args := [.list (ns.map .int)] } = true := by
      have h4 := (holds_andW hc).1
      rw [hn] at h4
      exact h4
    have h5 := condW_of h4 (w_not (w_lt w_lit (w_len_list (w_arg rfl))))
    rw [List.length_map] at h5
    refine Nat.le_of_not_lt fun q => ?_
    have q' : (n : Int) < ((ns.length : Nat) : Int) := by omega
    first
      | (rw [decide_eq_true q'] at h5; exact absurd h5 (by decide))
      | (simp at h5; omega)
  cases hwl with
  | cons w1 w2 =>
    cases w2
    cases w1 with
    | list ho hall => exact ⟨_, _, ns, rfl, rfl, ho, ints_of_wellAll ns _ hall, hlen⟩

theorem post_true (l : OpenLaw) (args : List WData) : l.row.toRowW.claim.post args (.bool true) args = true :=
  postW_of (r := l.row.toRowW) (X := (true == true))
    (show WShape.has [] (.bool true) .bool = true by first | rfl | decide | simp [WShape.has, WShape.arms, WShape.armsAll])
    (show (WTm.eq .res (.lit (.bool true))).value [] { args := args, res := some (.bool true), after := args } = some (.bool (true == true)) from w_eq_bool (w_res rfl) w_lit) rfl

/-! ### the attachment: holds_open's last premise (the goal 'hc' behind k_head) from a wpAny of the law's body -/

/-- the same from a codeAny of the CALL (for a layer whose function contracts speak of calls) -/
theorem attach_call {l : OpenLaw} {n : Nat} {q : Program} {loose : List Str} {XP : (Str → Option Value) → Heap → Prop} {YP : World → Heap → Prop} {d : DefRec}
    (hn : l.most = some n) (hdf : d.params.defaults = [])
    (call : ∀ (w : World) (s₀ s₁ : Shared) (mg mb : Str → Option Value) (fa : Addr) (o : Obj) (pm cd doc : Value) (a : Addr) (vs : List Value) (ns : List Int),
      Ground q loose [] XP w s₀ mg mb s₁.heap → YP w s₁.heap →
      s₁.heap.get? fa = some o → o.data = .func (docDef d.name d.params d.body d.scope pm cd doc) → s₁.heap.CodeRec cd d.name → mg d.name = some (.ref fa) →
      s₁.heap.get? a = some { cls := .type "list", data := .seq vs.toArray } → IntsAre vs ns → ns.length ≤ n → s₁.gens = #[] →
      codeAny (model l.prog w) callerA (.call (.ref fa) ⟨[.ref a], []⟩) (fun r s' => r = .ok (.ret (.bool true)) ∧ OldK s₁.heap s'.heap ∧ s'.os = s₁.os ∧ AllBare s'.gens) s₁) :
    WalkO q loose XP YP l.row.toRowW d [] (fun f vs => PySem.call f vs) := by
  intro w s₀ s₁ mg mb G Y fa o pm cd doc dV kV ho hd hcd hD hmg hg args vals as hpre hlay hrd hwl hlo
  obtain rfl : dV = .none := Dflts.none hD hdf
  obtain rfl : kV = .none := Dflts.noKw hD
  obtain ⟨a, vs, ns, rfl, rfl, hobj, hints, hlen⟩ := script_of hn hpre hwl
  refine enter_call (codeAny_mono (call w s₀ s₁ mg mb fa o pm cd doc a vs ns G Y ho (fd_plain hd) hcd hmg hobj hints hlen hg) fun r s' hq => ?_)
  obtain ⟨rfl, h2, h3, h4⟩ := hq
  exact ⟨.inl ⟨.bool true, .bool true, [], rfl, fun _ => rfl, .bool true, post_true l _, fun _ => ⟨List.Pairwise.nil, fun _ hm => (nomatch hm)⟩⟩, h2, h3, h4⟩


/-! ### rules over ANY heap (no ledger) from facts about the written part K: the library's own take a ledger (News) for what they write -/
section
variable {prog : Program} {w : World} {A : Around} {E : Value → Shared → Prop} {s : Shared} {K : Frag}





/-! the whole heap as the ledger: makes every rule that writes through a ledger a rule over any heap -/
def ledger (h : Heap) (L d : Addr) : List (Addr × Obj) := (List.range h.objs.size).filterMap fun a => if a = L ∨ a = d then none else (h.get? a).map fun o => (a, o)

end
end Att

namespace L2
open PySem PySem.Spec PyProof.Rows

theorem vals_ints : ∀ {vs : List Value} {ns : List Int}, IntsAre vs ns → Vals (ns.map V.int) vs
  | _, _, .nil => .nil
  | _, _, .cons n t h => .cons ⟨t, rfl⟩ (vals_ints h)

/-- nothing is tracked but the script, known to the object (or it is an object of the module) -/
def Only (H : Hp) : Prop := ∀ b, H b = none ∨ ∃ o xs, H b = some (.frz o (.lst xs))

/-- THE HEAD: the law's promise, at the heap behind the top. F, the promise of the law's def, may use that base is part of the heap (so K.In base, base.Ns mainGlobals mg stand in Mod) -/
theorem law_call {P : Program} {w : World} {K : PySem.W.Frag} {mg mb : Str → Option Value} {CX : CXT} {k : Nat} {fa a : Addr} {fd : FuncData} {x : Str} {sp : Sp} {s₁ : Shared} {vs : List Value} {ns : List Int}
    (KX : K.In s₁.heap) (hns : s₁.heap.Ns mainGlobals mg) (hb : s₁.heap.Ns builtinsNs mb) (hbb : ∀ x : Str, x ≠ "__name__" → mb x = bootBuiltins x) (hlim : s₁.heap.NoLimit) (hg : s₁.gens = #[])
    (ha : s₁.heap.get? a = some { cls := .type "list", data := .seq vs.toArray }) (hi : IntsAre vs ns) (hl : ns.length ≤ sizeLine) (hr : Room k callerA)
    (F : ∀ base : Heap, K.In base → base.Ns mainGlobals mg → FnOk P w K mg base CX k fa fd [x] sp) (hbind : ∀ (s : Shared) (u : Value), BindsTo s fd ⟨[u], []⟩ [(x, u)])
    (hsp : ∀ H : Hp, Only H → SqL K H a (ns.map V.int) → sp [.ref a] H (fun v _ => v = .bl true) fun _ _ _ => False)
    (hCX : ∀ H e s', CX [] H s₁ (fun _ _ _ => False) e s' → False) :
    codeAny (model P w) callerA (.call (.ref fa) ⟨[.ref a], []⟩) (fun r s' => r = .ok (.ret (.bool true)) ∧ OldK s₁.heap s'.heap ∧ s'.os = s₁.os ∧ AllBare s'.gens) s₁ := by
  have rv := vals_ints hi
  have lenV := hi.length
  -- from an abstract heap in which nothing but the script may be tracked
  have core : ∀ H : Hp, Only H → SqL K H a (ns.map V.int) → HOk P w H s₁.heap → (∀ b, H b ≠ none → b = a) → (H a ≠ none → K.lookup a = none) →
      codeAny (model P w) callerA (.call (.ref fa) ⟨[.ref a], []⟩) (fun r s' => r = .ok (.ret (.bool true)) ∧ OldK s₁.heap s'.heap ∧ s'.os = s₁.os ∧ AllBare s'.gens) s₁ := by
    intro H hO hS hok hA hK
    have base_of : ∀ {b : Addr} {o : Obj}, s₁.heap.get? b = some o → H b = none → (hidT s₁.heap H).get? b = some o := fun e n => hidT_get e n
    have noA : ∀ {b : Addr} {o : Obj} {es : Array DictEntry} {ep : Nat}, s₁.heap.get? b = some o → o.data = .dict es ep → H b = none := fun {b o es ep} e d => by
      cases q : H b with
      | none => rfl
      | some u =>
        have e' : b = a := hA b (by rw [q]; simp)
        subst e'
        rw [ha] at e; cases e
        have d' : Data.seq vs.toArray _ = Data.dict es ep := d
        cases d'
    have nsK : ∀ {b : Addr} {m : Str → Option Value}, s₁.heap.Ns b m → (hidT s₁.heap H).Ns b m := fun {b m} ⟨o, es, ep, e, d, r⟩ => ⟨o, es, ep, base_of e (noA e d), d, r⟩
    have hKb : K.In (hidT s₁.heap H) := fun b o e => base_of (KX b o e) (by
      cases q : H b with
      | none => rfl
      | some u =>
        have e' : b = a := hA b (by rw [q]; simp)
        subst e'
        rw [hK (by rw [q]; simp)] at e; cases e)
    have hM : Mod K mg (hidT s₁.heap H) := ⟨hKb, nsK hns, ⟨mb, nsK hb, hbb⟩, let ⟨mc, h1, h2⟩ := hlim; ⟨mc, nsK h1, h2⟩⟩
    have e0 : Env0 P w K mg (hidT s₁.heap H) callerA [] s₁ H := ⟨rfl, hM, fun b o e => of_hidT e, Nat.le_of_eq (hidT_size _ _), trivial, fun b hb => absurd (show b ∈ ([] : List Addr) from hb) (by simp), hok, .of_eq hg⟩
    refine codeAny_mono ((F _ hKb (nsK hns)).run callerA [] s₁ H ⟨[.ref a], []⟩ [.ref a] [.ref a] _ _ hr e0 (hbind s₁ (.ref a)) (.cons rfl .nil) (hsp H hO hS)) fun r s' h => ?_
    cases r with
    | error e => exact (hCX H e s' h).elim
    | ok fl =>
      cases fl with
      | next => exact False.elim h
      | brk => exact False.elim h
      | cont => exact False.elim h
      | ret u =>
        obtain ⟨v, H', os, bare, un, hok', r', q⟩ := h
        have q' : v = .bl true := q
        subst q'
        obtain rfl : u = Value.bool true := r'
        refine ⟨rfl, OldK.of_keep fun b o e => ?_, os, bare⟩
        cases q : H b with
        | none => exact un.keep b o e q (by intro z; exact absurd (show b ∈ ([] : List Addr) from z) (by simp)) (by simp)
        | some u =>
          rcases hO b with z | ⟨ob, xs, z⟩
          · rw [q] at z; cases z
          · have z2 := un.frzs b ob _ z
            obtain ⟨e1, _⟩ := hok b _ z
            obtain ⟨e2, _⟩ := hok' b _ z2
            rw [e] at e1; cases e1
            exact e2
  cases hk : K.lookup a with
  | some o =>
    -- the script is one of the module's own objects
    have e := KX a o hk
    rw [ha] at e
    cases e
    refine core (fun _ => none) (fun _ => .inl rfl) (.inr ⟨_, vs.toArray, _, hk, rfl, rfl, rfl, by rw [List.size_toArray, lenV]; exact hl, by simpa using rv⟩) (fun b u z => by have z' : (none : Option HO) = some u := z; cases z') (fun b z => absurd rfl z) fun z => absurd rfl z
  | none =>
    refine core (fun b => if b = a then some (.frz { cls := .type "list", data := .seq vs.toArray } (.lst (ns.map V.int))) else none) (fun b => ?_) (.inl (.inr ⟨{ cls := .type "list", data := .seq vs.toArray }, if_pos rfl⟩)) (fun b u z => ?_) (fun b z => ?_) fun _ => hk
    · by_cases hb : b = a
      · exact .inr ⟨_, _, if_pos hb⟩
      · exact .inl (if_neg hb)
    · by_cases hb : b = a
      · have z' := (if_pos hb).symm.trans z
        cases z'
        subst hb
        exact ⟨ha, by rw [List.length_map]; exact hl, vs, _, rv, ha⟩
      · have z' := (if_neg hb).symm.trans z
        cases z'
    · by_cases hb : b = a
      · exact hb
      · exact absurd (if_neg hb) z
end L2

namespace L2
open PySem PySem.Spec PyProof.Rows

abbrev KOf {K : PySem.W.Frag} {h : Heap} (_ : K.In h) : PySem.W.Frag := K

/-- the goal that k_head leaves (case hc), from the law's promise. F gives the function object fd (K's own) once, then the promise over every base -/
theorem walk_of {l : PySem.W.OpenLaw} {n k : Nat} {q : Program} {loose : List Str} {XP : (Str → Option Value) → Heap → Prop} {YP : World → Heap → Prop} {d : DefRec} {K : Params → PySem.W.Frag} {CX : World → CXT} {sp : World → Sp} {x : Str}
    (hn : l.most = some n) (hn2 : n ≤ sizeLine) (hdf : d.params.defaults = []) (hr : Room k callerA)
    (hY : ∀ (w : World) (h : Heap), YP w h → (K w.params).In h)
    (F : ∀ (w : World) (mg : Str → Option Value) (fa : Addr) (h : Heap), (K w.params).In h → h.Ns mainGlobals mg → mg d.name = some (.ref fa) →
      ∃ fd : FuncData, (∀ (s : Shared) (u : Value), BindsTo s fd ⟨[u], []⟩ [(x, u)]) ∧
        ∀ base : Heap, (K w.params).In base → base.Ns mainGlobals mg → FnOk l.prog w (K w.params) mg base (CX w) k fa fd [x] (sp w))
    (hsp : ∀ (w : World) (H : Hp) (a : Addr) (ns : List Int), ns.length ≤ n → Only H → SqL (K w.params) H a (ns.map V.int) → sp w [.ref a] H (fun v _ => v = .bl true) fun _ _ _ => False)
    (hCX : ∀ (w : World) (H : Hp) (s : Shared) (e : Value) (s' : Shared), CX w [] H s (fun _ _ _ => False) e s' → False) :
    PySem.W.WalkO q loose XP YP l.row.toRowW d [] (fun f vs => PySem.call f vs) := by
  refine Att.attach_call hn hdf fun w s₀ s₁ mg mb fa o pm cd doc a vs ns G Y ho hd hcd hmg hobj hints hlen hg => ?_
  have KX := hY w _ Y
  obtain ⟨fd, hb, hF⟩ := F w mg fa _ KX G.T.g hmg
  exact law_call KX G.T.g G.T.b G.T.builtins G.T.nolimit hg hobj hints (Nat.le_trans hlen hn2) hr hF hb (fun H hO hS => hsp w H a ns hlen hO hS) fun H e s' => hCX w H s₁ e s'
end L2

/- THE LAST THEOREM (shape; LID, My.* are yours):
   My.Adr: a structure of the addresses that your layer names (classes, functions); My.Txt K t: a structure (Prop) of the equations over K;
   My.txt_mk : {K} {implicit addresses ..} (e1 : nsIn K mainGlobals "law" = some (some (.ref f))) (e2 : K.lookup f = some ⟨oc, od, .func (fnOf "law" "law" params body scope dV kV doc pm an cdv ct), sl⟩) (e3 : codeIn K cdv "law" = true) .. : ∃ t, My.Txt K t

set_option maxRecDepth 100000 in
set_option maxHeartbeats 0 in
theorem PySem.Challenge.cw_LID_holds : PySem.Challenge.rw_LID.Holds := by
  w_on; o_law; k_head; (case hw => w_witness2)
  k_fill
  refine L2.walk_of (l := PySem.Challenge.rw_LID) (n := 63) (k := 40) (x := "script") (CX := fun w => ..) (sp := fun _ => My.sp_law) rfl (by decide) rfl ⟨rfl, by decide, by decide⟩ (fun w h Y => PySem.W.kIn_of Y) ?F ?S ?C
  case F =>
    intro w mg fa h KX G hmg
    have T : ∃ t, My.Txt (L2.KOf KX) t := by
      dsimp only [L2.KOf]                          -- K must stand as «<heap const> w.params» for k_is
      refine' My.txt_mk ?e1 ?e2 ?e3 ..
      (case e1 => PySem.W.k_is)                    -- in the order: a name -> its address -> its object -> its parts
      (case e2 => PySem.W.k_is)
      ..
    obtain ⟨t, T⟩ := T
    have e0 := hmg.symm.trans (PySem.W.mg_of KX G T.law)
    cases e0                                       -- fa is the law's own address
    exact ⟨_, fun s u => .of_eq rfl, fun base kb nb => My.law_fn T kb nb⟩     -- if «.of_eq rfl» comes too early: refine' ⟨_, ?b, fun base kb nb => My.law_fn T kb nb⟩; exact fun s u => .of_eq rfl
  case S => exact fun w H a ns hl hO hS => ..
  case C => exact ..
(the tactic k_is has no namespace: write k_is) -/

/-! SHORT WORDS over the layer: a def of the text, its body, what a loop and a test want. -/
namespace L2
open PySem PySem.Spec PyProof.Rows

/-! ### the text by places -/
/-- the j-th statement of a class's body -/
def inClass (s : Stmt) (j : Nat) : Stmt := match s with
  | .ClassDef _ _ _ body _ _ _ _ _ _ _ => body.getD j (.Pass ⟨0, 0, 0, 0⟩)
  | _ => .Pass ⟨0, 0, 0, 0⟩
def defArgs (s : Stmt) : Arguments := match s with
  | .FunctionDef _ a _ _ _ _ _ _ _ _ => a
  | _ => { posonlyargs := [], args := [], vararg := none, kwonlyargs := [], kw_defaults := [], kwarg := none, defaults := [] }
def defBody (s : Stmt) : List Stmt := match s with
  | .FunctionDef _ _ b _ _ _ _ _ _ _ => b
  | _ => []
def defScope (s : Stmt) : Scope := match s with
  | .FunctionDef _ _ _ _ _ _ sc _ _ _ => sc
  | _ => { kind := .function, names := [], isGenerator := false, isCoroutine := false }

/-! ### no exception leaves a def -/
abbrev CX0 : CXT := fun _ _ _ _ _ _ => False
abbrev E0 : XK := fun _ _ _ => False
theorem pass0 {X : Cx} : Passes CX0 X E0 := fun _ _ _ _ _ _ _ h => h.elim

/-! ### a def (or method) of the text as it stands behind the top -/
structure Fun (K : PySem.W.Frag) (x qual : Str) (st : Stmt) (f : Addr) (fd : FuncData) : Prop where
  ex : ∃ (oc : Value) (od : Option Addr) (kV doc pm : Value) (an : Option Addr) (cdv ct : Value) (osl : Array (Option Value)),
    fd = PySem.W.fnOf x qual (defArgs st) (defBody st) (defScope st) .none kV doc pm an cdv ct ∧ K.lookup f = some ⟨oc, od, .func fd, osl⟩ ∧ PySem.W.codeIn K cdv qual = true
  kp : PySem.W.keepIn K (.ref f) = true
section
variable {P : Program} {w : World} {K : PySem.W.Frag} {mg : Str → Option Value} {base : Heap}
/-- THE RULE for a def: its body as a term of rules, and the reading of that term -/
theorem Fun.ok {x qual : Str} {st : Stmt} {f : Addr} {fd : FuncData} {N ps : List Str} {k : Nat} {sp : Sp} (F : Fun K x qual st f fd) (S : FnScope N ps (defScope st)) (len : ∀ vs H Q E, sp vs H Q E → vs.length = ps.length)
    (hbody : ∀ (cdv : Value) (A : Around) (outer : List Env) (s : Shared) (H : Hp) (vs : List V) (Q : VK) (E : XK), Room k (A.deeper (envOfC qual (defScope st) s.heap.objs.size f cdv)) → sp vs H Q E →
      ∃ t, PSs (cxOf CX0 P w K mg base N qual (defScope st) f cdv A outer s H E).nox (defBody st) t ∧ t { nx := fun _ H' => Q .non H', rt := Q } (start N vs) H) : FnOk P w K mg base CX0 (k + 1) f fd ps sp := by
  obtain ⟨oc, od, kV, doc, pm, an, cdv, ct, osl, rfl, lk, hcd⟩ := F.ex
  refine fn_of lk hcd S len fun A outer s H vs Q E hr hsp => ?_
  obtain ⟨t, h, q⟩ := hbody cdv A outer s H vs Q E hr hsp
  exact ⟨t, h.nox, q⟩
/-- how its arguments bind (no defaults): h is «fun _ _ _ _ _ _ us hl => match us, hl with | [_, _], _ => rfl», one _ a parameter -/
theorem Fun.binds {x qual : Str} {st : Stmt} {f : Addr} {fd : FuncData} {ps : List Str} (F : Fun K x qual st f fd)
    (h : ∀ (kV doc pm : Value) (an : Option Addr) (cdv ct : Value) (us : List Value), us.length = ps.length → bindArgs (PySem.W.fnOf x qual (defArgs st) (defBody st) (defScope st) .none kV doc pm an cdv ct) ⟨us, []⟩ = pure (ps.zip us)) : Binds K fd ps [] := by
  obtain ⟨oc, od, kV, doc, pm, an, cdv, ct, osl, rfl, lk, hcd⟩ := F.ex
  exact .all (h kV doc pm an cdv ct)
theorem fun_mk {x qual : Str} {st : Stmt} {f : Addr} {oc : Value} {od an : Option Addr} {osl : Array (Option Value)} {kV doc pm cdv ct : Value} (l : K.lookup f = some ⟨oc, od, .func (PySem.W.fnOf x qual (defArgs st) (defBody st) (defScope st) .none kV doc pm an cdv ct), osl⟩)
    (c : PySem.W.codeIn K cdv qual = true) (k : PySem.W.keepIn K (.ref f) = true) : Fun K x qual st f (PySem.W.fnOf x qual (defArgs st) (defBody st) (defScope st) .none kV doc pm an cdv ct) := ⟨⟨oc, od, kV, doc, pm, an, cdv, ct, osl, rfl, l, c⟩, k⟩
end
theorem small1000 {n : Nat} (h : n ≤ 1000) : n < sizeLine := Nat.lt_of_le_of_lt h (by decide)

/-! ### expressions in short: the name that stands in the i-th slot -/
section
variable {X : Cx}
theorem pv (i : Nat) {x : Str} {pos : Pos} (hN : X.N[i]? = some x := by rfl) (hv : Vis X.env.scope x := by first | exact Or.inl rfl | exact Or.inr (Or.inl rfl) | exact Or.inr (Or.inr rfl)) (hd : (x == ("__debug__" : Str)) = false := by decide)
    (hcd : (x == ("__classdict__" : Str)) = false := by decide) : PE X (.Name x pos) (tVar i) := pe_var hN hv hd hcd
end

/-! ### tests -/
theorem iteF {A B : Prop} (h : B) : if false = true then A else B := by
  rw [if_neg Bool.false_ne_true]
  exact h
theorem iteT {A B : Prop} (h : A) : if true = true then A else B := by
  rw [if_pos rfl]
  exact h
theorem ite2 {c A B : Prop} [Decidable c] (h1 : c → A) (h2 : ¬ c → B) : if c then A else B := by
  by_cases h : c
  · rw [if_pos h]
    exact h1 h
  · rw [if_neg h]
    exact h2 h

/-! ### heaps -/
/-- all that was tracked is as it was -/
def Same (H H' : Hp) : Prop := ∀ b o, H b = some o → H' b = some o
theorem Same.refl (H : Hp) : Same H H := fun _ _ h => h
theorem Same.trans {H H1 H2 : Hp} (a : Same H H1) (b : Same H1 H2) : Same H H2 := fun c o h => b c o (a c o h)
theorem Same.free {H H' : Hp} (e : Same H H') {l : Addr} (h : H' l = Option.none) : H l = Option.none := by
  cases q : H l with
  | none => rfl
  | some o =>
    rw [e l o q] at h
    cases h
theorem Same.seq {K : PySem.W.Frag} {H H' : Hp} {a : Addr} {xs : List V} (e : Same H H') (h : SqL K H a xs) : SqL K H' a xs := by
  rcases h with (h | ⟨o, h⟩) | h
  · exact .inl (.inl (e _ _ h))
  · exact .inl (.inr ⟨o, e _ _ h⟩)
  · exact .inr h

end L2

set_option Elab.async false
set_option linter.all false
set_option maxRecDepth 100000
set_option maxHeartbeats 4000000


set_option Elab.async false
set_option linter.all false
set_option maxRecDepth 100000
namespace L2
open PySem PySem.Spec PyProof.Rows

/-! ### lists of pairs as tables -/
section
variable {κ : Type} [DecidableEq κ]



end


/-! ### a tracked dict, its keys ints and texts or tuples of these -/


section
variable {P : Program} {w : World} {H : Hp} {h : Heap} {a : Addr}
end



section
variable {X : Cx} {pins : List (Addr × Obj)} {σ : St} {H : Hp} {s : Shared} {a : Addr} {y v : V} {u r : Value} {o : Option V} {A : Around} {E : Value → Shared → Prop}


end

section
variable {X : Cx} {pins : List (Addr × Obj)} {σ : St} {H : Hp} {s : Shared} {a : Addr} {kvs : List (Key × V)} {k : Key} {u : Value} {A : Around} {E : Value → Shared → Prop}
end


/-! ### readings and rules -/



section
variable {X : Cx} {o i e value : Expr} {pos pos' tpos : Pos} {td ty tv : TE}
end


/-! ### displays -/
section
variable {X : Cx} {pos : Pos}
end




/-! ### methods -/


section
variable {X : Cx} {pins : List (Addr × Obj)} {σ : St} {H : Hp} {s : Shared} {a : Addr} {y d : V} {u r : Value} {o : Option V} {A : Around} {E : Value → Shared → Prop}
end

section
variable {X : Cx} {o e f : Expr} {apos cpos : Pos} {td ty tx : TE}
end

/-! ### dict(d): a copy -/
section
variable {X : Cx} {pins : List (Addr × Obj)} {σ : St} {H : Hp} {s : Shared} {a : Addr} {kvs : List (Key × V)} {A : Around} {E : Value → Shared → Prop}
end


section
variable {X : Cx} {pins : List (Addr × Obj)} {σ : St} {H : Hp} {s : Shared} {a : Addr} {y : V} {u : Value} {A : Around} {E : Value → Shared → Prop}
end
section
variable {X : Cx}
end
/-! ### a dict's pairs: keys that differ -/
section
variable {κ : Type} [DecidableEq κ]
theorem nd_snoc : ∀ {l : List κ} {k : κ}, l.Nodup → ¬ k ∈ l → (l ++ [k]).Nodup
  | [], k, _, _ => by simp
  | a :: r, k, h, hk => by
    obtain ⟨h1, h2⟩ := List.nodup_cons.mp h
    show (a :: (r ++ [k])).Nodup
    refine List.nodup_cons.mpr ⟨fun m => ?_, nd_snoc h2 fun m => hk (List.mem_cons.mpr (Or.inr m))⟩
    rcases List.mem_append.mp m with q | q
    · exact h1 q
    · exact hk (List.mem_cons.mpr (Or.inl (List.mem_singleton.mp q).symm))
end
end L2

set_option Elab.async false
set_option linter.all false
set_option maxRecDepth 100000
set_option maxHeartbeats 4000000
namespace L2
open PySem PySem.Spec PyProof.Rows

/-! ### comprehensions: the block's names and cells -/
section
variable {M : Model} {A : Around} {E : Value → Shared → Prop} {s : Shared}
def clOf (env : Env) : List (Str × NameKind) → List (Str × Addr) → List (Str × Addr)
  | [], acc => acc
  | (n, k) :: r, acc => if (k == NameKind.free) = true then clOf env r ((n, (env.cells.lookup n).getD 0) :: acc) else clOf env r acc
theorem clOf_loop {env : Env} (f : Str × NameKind → List (Str × Addr) → Sem (ForInStep (List (Str × Addr))))
    (hf : ∀ n k cs, f (n, k) cs = if (k == NameKind.free) = true then (do let a ← cellOf env n; pure (.yield ((n, a) :: cs))) else pure (.yield cs)) :
    ∀ (names : List (Str × NameKind)) (acc : List (Str × Addr)), (∀ p ∈ names, p.2 = .free → ∃ c, env.cells.lookup p.1 = some c) → forIn names acc f = pure (clOf env names acc)
  | [], acc, _ => by rw [List.forIn_nil]; rfl
  | (n, k) :: r, acc, h => by
    have hr : ∀ p ∈ r, p.2 = .free → ∃ c, env.cells.lookup p.1 = some c := fun p hp => h p (List.mem_cons_of_mem _ hp)
    rw [List.forIn_cons, hf, clOf]
    by_cases hk : (k == NameKind.free) = true
    · obtain ⟨c, hc⟩ := h (n, k) List.mem_cons_self (by simpa using hk)
      have hc' : env.cells.lookup n = some c := hc
      rw [if_pos hk, if_pos hk]
      have e : cellOf env n = pure c := by unfold cellOf; rw [hc']
      rw [e, hc']
      exact clOf_loop f hf r _ hr
    · rw [if_neg hk, if_neg hk]
      exact clOf_loop f hf r _ hr
theorem closureFor_of {sc : Scope} {env : Env} (h : ∀ p ∈ sc.names, p.2 = .free → ∃ c, env.cells.lookup p.1 = some c) : closureFor sc env = pure (clOf env sc.names []) := by
  unfold closureFor
  have e := clOf_loop (env := env) (fun (x : Str × NameKind) (r : List (Str × Addr)) => if (x.2 == NameKind.free) = true then (do let a ← cellOf env x.1; pure (ForInStep.yield ((x.1, a) :: r))) else pure (ForInStep.yield r)) (fun _ _ _ => rfl) sc.names [] h
  exact (congrArg (fun m => m >>= fun cs => pure cs) e)
theorem clOf_mem {env : Env} {x : Str} {c : Addr} : ∀ {names : List (Str × NameKind)} {acc : List (Str × Addr)}, (x, c) ∈ clOf env names acc → (x, c) ∈ acc ∨ ((x, NameKind.free) ∈ names ∧ c = (env.cells.lookup x).getD 0)
  | [], _, h => .inl h
  | (n, k) :: r, acc, h => by
    unfold clOf at h
    split at h
    · rename_i hk
      have hk' : k = .free := by simpa using hk
      rcases clOf_mem h with q | ⟨q, e⟩
      · rcases List.mem_cons.mp q with q | q
        · cases q; exact .inr ⟨by rw [hk']; exact List.mem_cons_self, rfl⟩
        · exact .inl q
      · exact .inr ⟨List.mem_cons_of_mem _ q, e⟩
    · rcases clOf_mem h with q | ⟨q, e⟩
      · exact .inl q
      · exact .inr ⟨List.mem_cons_of_mem _ q, e⟩
theorem lookup_mem_some {β : Type} {x : Str} {c : β} : ∀ {l : List (Str × β)}, (x, c) ∈ l → ∃ c', l.lookup x = some c'
  | [], h => nomatch h
  | (n, k) :: r, h => by
    cases hx : x == n with
    | true => exact ⟨k, by simp [List.lookup_cons, hx]⟩
    | false =>
      rcases List.mem_cons.mp h with q | q
      · cases q; simp at hx
      · obtain ⟨c', e⟩ := lookup_mem_some q
        exact ⟨c', by simp [List.lookup_cons, hx, e]⟩
theorem clOf_has {env : Env} {x : Str} : ∀ {names : List (Str × NameKind)} {acc : List (Str × Addr)}, ((x, NameKind.free) ∈ names ∨ ∃ c, (x, c) ∈ acc) → ∃ c, (x, c) ∈ clOf env names acc
  | [], acc, h => by
    rcases h with h | ⟨c, h⟩
    · exact nomatch h
    · exact ⟨c, h⟩
  | (n, k) :: r, acc, h => by
    unfold clOf
    split
    · rename_i hk
      apply clOf_has
      rcases h with h | ⟨c, h⟩
      · rcases List.mem_cons.mp h with q | q
        · cases q; exact .inr ⟨_, List.mem_cons_self⟩
        · exact .inl q
      · exact .inr ⟨c, List.mem_cons_of_mem _ h⟩
    · rename_i hk
      apply clOf_has
      rcases h with h | ⟨c, h⟩
      · rcases List.mem_cons.mp h with q | q
        · cases q; simp at hk
        · exact .inl q
      · exact .inr ⟨c, h⟩
theorem cellsFrom_append : ∀ (names : List (Str × NameKind)) (n : Nat) (acc : List (Str × Addr)), cellsFrom n names acc = cellsFrom n names [] ++ acc
  | [], _, _ => rfl
  | (x, k) :: r, n, acc => by
    unfold cellsFrom
    split
    · rw [cellsFrom_append r (n + 1) ((x, n) :: acc), cellsFrom_append r (n + 1) [(x, n)]]; simp
    · exact cellsFrom_append r n acc
theorem cellsFrom_mem {x : Str} {c : Addr} : ∀ {names : List (Str × NameKind)} {n : Nat} {acc : List (Str × Addr)}, (x, c) ∈ cellsFrom n names acc → (x, c) ∈ acc ∨ (x, NameKind.cell) ∈ names
  | [], _, _, h => .inl h
  | (m, k) :: r, n, acc, h => by
    unfold cellsFrom at h
    split at h
    · rename_i hk
      have hk' : k = .cell := by simpa using hk
      rcases cellsFrom_mem h with q | q
      · rcases List.mem_cons.mp q with q | q
        · cases q; exact .inr (by rw [hk']; exact List.mem_cons_self)
        · exact .inl q
      · exact .inr (List.mem_cons_of_mem _ q)
    · rcases cellsFrom_mem h with q | q
      · exact .inl q
      · exact .inr (List.mem_cons_of_mem _ q)
theorem cellsFrom_has {x : Str} : ∀ {names : List (Str × NameKind)} {n : Nat} {acc : List (Str × Addr)}, ((x, NameKind.cell) ∈ names ∨ ∃ c, (x, c) ∈ acc) → ∃ c, (x, c) ∈ cellsFrom n names acc
  | [], n, acc, h => by
    rcases h with h | ⟨c, h⟩
    · exact nomatch h
    · exact ⟨c, h⟩
  | (m, k) :: r, n, acc, h => by
    unfold cellsFrom
    split
    · apply cellsFrom_has
      rcases h with h | ⟨c, h⟩
      · rcases List.mem_cons.mp h with q | q
        · cases q; exact .inr ⟨_, List.mem_cons_self⟩
        · exact .inl q
      · exact .inr ⟨c, List.mem_cons_of_mem _ h⟩
    · rename_i hk
      apply cellsFrom_has
      rcases h with h | ⟨c, h⟩
      · rcases List.mem_cons.mp h with q | q
        · cases q; simp at hk
        · exact .inl q
      · exact .inr ⟨c, h⟩
theorem lookup_app {β : Type} {x : Str} : ∀ (l1 l2 : List (Str × β)), (l1 ++ l2).lookup x = (l1.lookup x).or (l2.lookup x)
  | [], _ => by simp
  | (n, k) :: r, l2 => by
    cases hx : x == n with
    | true => simp [List.lookup_cons, hx]
    | false => simp [List.lookup_cons, hx, lookup_app r l2]
theorem newEnv_comp {scope : Scope} {globals : Addr} {cl : List (Str × Addr)} {qual : Str} {env : Env} {Q : Env → Shared → Prop}
    (hQ : Q { scope, locals := s.heap.objs.size, globals, cells := cellsFrom (s.heap.objs.size + 1) scope.names cl, qual, func := none, code := env.code, frame := env.frame, builtins := env.builtins }
      { s with heap := pushCells (s.heap.push { cls := .type "dict", data := .dict #[] }) scope.names }) :
    wpAny M A (newFunctionEnv scope globals cl [] qual none .none (some env)) Q E s := by
  have z : (s.heap.push { cls := .type "dict", data := .dict #[] }).objs.size = s.heap.objs.size + 1 := Heap.size_push ..
  show wpAny M A (alloc { cls := .type "dict", data := .dict #[] } >>= _) Q E s
  apply wpAny_bind; apply wpAny_alloc; apply wpAny_bind
  refine wpAny_layCells _ (fun _ k _ => by by_cases y : k = NameKind.cell <;> simp [y]) _ _ _ _ ?_
  dsimp only
  rw [List.forIn_nil, z]
  exact wpAny_bind (wpAny_pure (wpAny_pure hQ))
theorem lookup_relabel {env : Env} {x : Str} : ∀ (names : List (Str × NameKind)),
    (names.map fun (n, k) => if (k == NameKind.free && env.scope.kind == .function && env.kindOf n == some .cell) then (n, NameKind.cell) else (n, k)).lookup x =
      (names.lookup x).map fun k => if (k == NameKind.free && env.scope.kind == .function && env.kindOf x == some .cell) = true then NameKind.cell else k
  | [] => by simp
  | (n, k) :: r => by
    have ih := lookup_relabel (env := env) (x := x) r
    cases hx : x == n with
    | true =>
      have e : x = n := by simpa using hx
      subst e
      rw [List.map_cons]
      dsimp only
      by_cases hc : (k == NameKind.free && env.scope.kind == .function && env.kindOf x == some .cell) = true
      · rw [if_pos hc, List.lookup_cons, List.lookup_cons, hx]; dsimp only [Option.map_some]; rw [if_pos hc]
      · rw [if_neg hc, List.lookup_cons, List.lookup_cons, hx]; dsimp only [Option.map_some]; rw [if_neg hc]
    | false =>
      rw [List.map_cons]
      dsimp only
      by_cases hc : (k == NameKind.free && env.scope.kind == .function && env.kindOf n == some .cell) = true
      · rw [if_pos hc, List.lookup_cons, List.lookup_cons, hx]; exact ih
      · rw [if_neg hc, List.lookup_cons, List.lookup_cons, hx]; exact ih
end

/-- the context of a comprehension's block: own names first, then the outer names (by their places) that it reads -/
def cxC (X : Cx) (own : List Str) (fr : List Nat) (scope : Scope) (s2 : Shared) (H2 : Hp) (fp : List Addr) : Cx where
  prog := X.prog
  w := X.w
  K := X.K
  mg := X.mg
  base := X.base
  A := X.A
  N := own ++ fr.map (fun i => X.N.getD i Str.empty)
  s₀ := s2
  H₀ := H2
  env := { scope := relabel scope X.env, locals := s2.heap.objs.size + 1, globals := X.env.globals, cells := cellsFrom (s2.heap.objs.size + 2) scope.names (clOf X.env scope.names []), qual := X.env.qual, func := none, code := X.env.code, frame := X.env.frame, builtins := X.env.builtins }
  outer := X.stack
  stack := X.stack
  ex := fp
  fn := fun x => scope.names.lookup x == some .cell
  calm := X.calm
  pn := []
  xe := fun _ _ => False
def cSt (own : List Str) (fr : List Nat) (σ : St) : St := List.replicate own.length none ++ fr.map fun i => (σ[i]?).join

/-- what is looked at of a comprehension's scope (closed) -/
def compOk (osc : List (Str × NameKind)) (N : List Str) (own : List Str) (fr : List Nat) (sc : Scope) : Bool :=
  decide (sc.kind = .function) && decide ((sc.names.map (·.1)).Nodup) &&
  sc.names.all (fun y => !(y.2 == .free) || (osc.lookup y.1 == some .cell || osc.lookup y.1 == some .free)) &&
  fr.all (fun i => decide (i < N.length) && (sc.names.lookup (N.getD i Str.empty) == some .free))
structure CompSc (X : Cx) (own : List Str) (fr : List Nat) (sc : Scope) : Prop where
  kind : sc.kind = .function
  nd : (sc.names.map (·.1)).Nodup
  fre : ∀ y ∈ sc.names, y.2 = .free → X.env.scope.names.lookup y.1 = some .cell ∨ X.env.scope.names.lookup y.1 = some .free
  frl : ∀ i ∈ fr, i < X.N.length
  frv : ∀ i ∈ fr, sc.names.lookup (X.N.getD i Str.empty) = some .free
theorem compSc {X : Cx} {own : List Str} {fr : List Nat} {sc : Scope} {osc : List (Str × NameKind)} {N : List Str} (h1 : X.env.scope.names = osc) (h2 : X.N = N) (h : compOk osc N own fr sc = true) : CompSc X own fr sc := by
  unfold compOk at h
  simp only [Bool.and_eq_true, decide_eq_true_eq, List.all_eq_true] at h
  obtain ⟨⟨⟨h3, h4⟩, h5⟩, h6⟩ := h
  refine ⟨h3, h4, fun y hy hf => ?_, fun i hi => ?_, fun i hi => ?_⟩
  · have := h5 y hy
    rw [h1]
    simpa [hf] using this
  · rw [h2]; exact (h6 i hi).1
  · rw [h2]; simpa using (h6 i hi).2
theorem lookup_of_mem_nd {x : Str} {k : NameKind} : ∀ {l : List (Str × NameKind)}, (l.map (·.1)).Nodup → (x, k) ∈ l → l.lookup x = some k
  | [], _, h => nomatch h
  | (n, q) :: r, nd, h => by
    rcases List.mem_cons.mp h with e | e
    · cases e; simp [List.lookup_cons]
    · have nd' := List.nodup_cons.mp nd
      have hne : (x == n) = false := by
        have : x ≠ n := fun z => nd'.1 (by rw [← z]; exact List.mem_map.mpr ⟨_, e, rfl⟩)
        simpa using this
      rw [List.lookup_cons, hne]
      exact lookup_of_mem_nd nd'.2 e

section
variable {X : Cx} {pins : List (Addr × Obj)} {σ : St} {H : Hp} {s : Shared} {own : List Str} {fr : List Nat} {sc : Scope} {fp : List Addr}
/-- the heap in which the block begins -/
abbrev hC (s : Shared) (sc : Scope) (h1 : Heap) : Heap := pushCells (h1.push { cls := .type "dict", data := .dict #[] }) sc.names
theorem inv_comp (I : Inv X pins σ H s) (S : CompSc X own fr sc) (hfp : ∀ b ∈ fp, FpOk X pins H b) {h1 : Heap} (hz : h1.objs.size = s.heap.objs.size + 1) (hk : ∀ b o, s.heap.get? b = some o → h1.get? b = some o) (hfl : ∀ b ∈ fp, @LT.lt Nat _ b s.heap.objs.size) :
    Inv (cxC X own fr sc s H fp) [] (cSt own fr σ) H { s with heap := hC s sc h1 } := by
  have kk : ∀ b o, s.heap.get? b = some o → (hC s sc h1).get? b = some o := fun b o e => pushCells_keeps _ _ b o (Heap.get?_push_of_some _ (hk b o e))
  have nsC : (hC s sc h1).Ns (s.heap.objs.size + 1) (fun _ => none) := by
    have q := (Heap.Ns.new h1 (.type "dict")).keeps (pushCells_keeps sc.names _)
    rw [hz] at q
    exact q
  have ok := cellsFrom_ok sc.names (h1.push { cls := .type "dict", data := .dict #[] }) (s.heap.objs.size + 2) [] ⟨fun _ _ hm => (nomatch hm), List.Pairwise.nil⟩ (by rw [Heap.size_push, hz]; exact Nat.le_refl _)
  rw [Heap.size_push, hz] at ok
  -- a free name's cell
  have fcell : ∀ y ∈ sc.names, y.2 = .free → ∃ c, X.env.cells.lookup y.1 = some c := fun y hy hf => I.ok.has y.1 (by
    rcases S.fre y hy hf with q | q
    · exact .inl q
    · exact .inr q)
  have old : ∀ x c, (clOf X.env sc.names []).lookup x = some c → X.env.cells.lookup x = some c ∧ (x, NameKind.free) ∈ sc.names := fun x c e => by
    rcases clOf_mem (PySem.mem_of_lookup e) with q | ⟨q, e2⟩
    · exact nomatch q
    · obtain ⟨c', e3⟩ := fcell _ q rfl
      have e3' : X.env.cells.lookup x = some c' := e3
      rw [e3'] at e2
      have : c = c' := e2
      subst this
      exact ⟨e3', q⟩
  have cs : ∀ x c, (cxC X own fr sc s H fp).env.cells.lookup x = some c → ((cellsFrom (s.heap.objs.size + 2) sc.names []).lookup x = some c ∧ @LE.le Nat _ (s.heap.objs.size + 2) c) ∨ (X.env.cells.lookup x = some c ∧ (x, NameKind.free) ∈ sc.names ∧ @LT.lt Nat _ c s.heap.objs.size) := fun x c e => by
    have e' : (cellsFrom (s.heap.objs.size + 2) sc.names (clOf X.env sc.names [])).lookup x = some c := e
    rw [cellsFrom_append, lookup_app] at e'
    cases q : (cellsFrom (s.heap.objs.size + 2) sc.names []).lookup x with
    | some c' =>
      rw [q] at e'
      have : c' = c := by simpa using e'
      subst this
      exact .inl ⟨rfl, (ok.empty x c' (PySem.mem_of_lookup q)).2⟩
    | none =>
      rw [q] at e'
      obtain ⟨e1, e2⟩ := old x c (by simpa using e')
      obtain ⟨v, hv⟩ := I.cell x c e1
      exact .inr ⟨e1, e2, hv.lt⟩
  have okY : (cxC X own fr sc s H fp).Ok := by
    refine ⟨I.ok.mod, S.kind, I.ok.glob, I.ok.blt, Nat.le_succ _, fun x y c h1 h2 => ?_, fun x hx => ?_, fun x c hf e => ?_, I.ok.hd, I.ok.frames, .inl rfl, fun b hb => ⟨?_, fun x c e => ?_⟩, fun b o e => I.bs b o e, Nat.le_trans I.ok.bsz I.sz, fun b o e hb => ?_, fun b hb z => ?_, I.stack, I.stkFree⟩
    · rcases cs x c h1 with ⟨q1, g1⟩ | ⟨q1, _, g1⟩
      · rcases cs y c h2 with ⟨q2, g2⟩ | ⟨q2, _, g2⟩
        · exact name_of_addr ok.apart (PySem.mem_of_lookup q1) (PySem.mem_of_lookup q2)
        · omega
      · rcases cs y c h2 with ⟨q2, g2⟩ | ⟨q2, _, g2⟩
        · omega
        · exact I.ok.inj x y c q1 q2
    · -- a cell or free name of the block has its cell
      have hx' : (relabel sc X.env).names.lookup x = some .cell ∨ (relabel sc X.env).names.lookup x = some .free := hx
      have hl : sc.names.lookup x = some .cell ∨ sc.names.lookup x = some .free := by
        unfold relabel at hx'
        rw [lookup_relabel] at hx'
        cases q : sc.names.lookup x with
        | none => rw [q] at hx'; simp at hx'
        | some k =>
          rw [q] at hx'
          cases k <;> simp at hx' ⊢
      have hm : ∃ c, (x, c) ∈ cellsFrom (s.heap.objs.size + 2) sc.names (clOf X.env sc.names []) := by
        rcases hl with hl | hl
        · exact cellsFrom_has (.inl (PySem.mem_of_lookup hl))
        · exact cellsFrom_has (.inr (clOf_has (.inl (PySem.mem_of_lookup hl))))
      obtain ⟨c, hm⟩ := hm
      exact lookup_mem_some hm
    · have hf' : sc.names.lookup x = some .cell := by simpa using (show (sc.names.lookup x == some .cell) = true from hf)
      show @LE.le Nat _ s.heap.objs.size c
      rcases cs x c e with ⟨_, g⟩ | ⟨_, q, _⟩
      · omega
      · rw [lookup_of_mem_nd S.nd q] at hf'; cases hf'
    · have := hfl b hb
      show @Ne Nat b (s.heap.objs.size + 1)
      omega
    · intro z
      subst z
      rcases cs x c e with ⟨_, g⟩ | ⟨q, _, _⟩
      · have := hfl c hb; omega
      · exact (hfp c hb).2.2.2.2.1 x c q rfl
    · rcases (hfp b hb).2.2.2.1 with z | z
      · exact I.ok.noex b o e z
      · have z1 : @LT.lt Nat _ b X.base.objs.size := Heap.lt_size e
        have z2 : X.base.objs.size ≤ X.s₀.heap.objs.size := I.ok.bsz
        have z3 : @LE.le Nat _ X.s₀.heap.objs.size b := z
        omega
    · rcases List.mem_cons.mp (I.stkSub b z) with e | e
      · exact (hfp b hb).2.1 e
      · exact (hfp b hb).2.2.1 e
  refine ⟨okY, rfl, I.bare, Un.kept kk, ⟨_, nsC, fun i x v h1 h2 h3 => ?_⟩, fun x c e => ?_, I.hok.fresh (Nat.le_succ _), fun x c e => ?_, fun p hp => absurd (show p ∈ ([] : List (Addr × Obj)) from hp) (by simp), I.hok.kept kk, ?_⟩
  · -- an outer name that is read
    have hi : own.length ≤ i := by
      by_cases hi : i < own.length
      · exfalso
        unfold cSt at h2
        rw [List.getElem?_append_left (by simpa using hi), List.getElem?_replicate] at h2
        split at h2 <;> cases h2
      · omega
    have h1' : (own ++ fr.map (fun i => X.N.getD i Str.empty))[i]? = some x := h1
    rw [List.getElem?_append_right hi, List.getElem?_map] at h1'
    unfold cSt at h2
    rw [List.getElem?_append_right (by simpa using hi), List.getElem?_map, List.length_replicate] at h2
    cases e : fr[i - own.length]? with
    | none => rw [e] at h1'; cases h1'
    | some k =>
      rw [e] at h1' h2
      have hkm : k ∈ fr := List.mem_of_getElem? e
      have ex : X.N.getD k Str.empty = x := by simpa using h1'
      have ev : (σ[k]?).join = some v := by simpa using h2
      have hkl := S.frl k hkm
      have eN : X.N[k]? = some x := by rw [← ex]; simp [List.getD, hkl]
      have eσ : σ[k]? = some (some v) := by
        cases q : σ[k]? with
        | none => rw [q] at ev; cases ev
        | some o => rw [q] at ev; cases o with
          | none => cases ev
          | some v' => have : v' = v := by simpa using ev
                       subst this; rfl
      have hfr := S.frv k hkm
      rw [ex] at hfr
      have hmem : (x, NameKind.free) ∈ sc.names := PySem.mem_of_lookup hfr
      have hkd := S.fre _ hmem rfl
      have hkd' : X.env.scope.names.lookup x = some .cell ∨ X.env.scope.names.lookup x = some .free := hkd
      obtain ⟨m, hn, hl⟩ := I.loc
      obtain ⟨u, r, l⟩ := hl k x v eN eσ (hkd'.elim (fun z => .inr (.inl z)) fun z => .inr (.inr z))
      refine ⟨u, r, ?_⟩
      rcases l with ⟨z, _⟩ | ⟨_, c, hc, hcell⟩
      · exfalso
        have z' : X.env.scope.names.lookup x = some .local := z
        rcases hkd' with q | q <;> (rw [q] at z'; cases z')
      · refine .inr ⟨?_, c, ?_, hcell.keeps kk⟩
        · show (relabel sc X.env).names.lookup x = some .cell ∨ (relabel sc X.env).names.lookup x = some .free
          unfold relabel
          rw [lookup_relabel, hfr]
          simp only [Option.map_some]
          split
          · exact .inl rfl
          · exact .inr rfl
        · show (cellsFrom (s.heap.objs.size + 2) sc.names (clOf X.env sc.names [])).lookup x = some c
          rw [cellsFrom_append, lookup_app]
          have h0 : (cellsFrom (s.heap.objs.size + 2) sc.names []).lookup x = none := by
            cases q : (cellsFrom (s.heap.objs.size + 2) sc.names []).lookup x with
            | none => rfl
            | some c' =>
              exfalso
              rcases cellsFrom_mem (PySem.mem_of_lookup q) with z | z
              · exact nomatch z
              · rw [lookup_of_mem_nd S.nd z] at hfr; cases hfr
          rw [h0]
          obtain ⟨c', hm'⟩ := clOf_has (env := X.env) (acc := []) (.inl hmem)
          obtain ⟨c2, e2⟩ := lookup_mem_some hm'
          obtain ⟨e3, _⟩ := old x c2 e2
          rw [hc] at e3
          rw [e2]
          simpa using e3.symm
  · rcases cs x c e with ⟨q, _⟩ | ⟨q, _, _⟩
    · exact ⟨_, (ok.empty x c (PySem.mem_of_lookup q)).1⟩
    · obtain ⟨v, hv⟩ := I.cell x c q
      exact ⟨v, hv.keeps kk⟩
  · rcases cs x c e with ⟨_, g⟩ | ⟨q, _, _⟩
    · exact I.hok.fresh (by omega)
    · exact I.freeC x c q
  · unfold cSt
    show _ = (own ++ fr.map (fun i => X.N.getD i Str.empty)).length
    simp
/-- behind the block: the outer state again, with the made list -/
theorem inv_back {own : List Str} {fr : List Nat} {sc : Scope} {fp : List Addr} {H1 : Hp} {s1 : Shared} {σ1 : St} {pins1 : List (Addr × Obj)} {h' : Heap} {o : HO} {D : Addr}
    (I : Inv X pins σ H s) (hfp : ∀ b ∈ fp, FpOk X pins H b) (I1 : Inv (cxC X own fr sc s H fp) pins1 σ1 H1 s1) (hD : @LE.le Nat _ s.heap.objs.size D) (hDn : H1 D = none) (hDC : D ≠ s.heap.objs.size + 1)
    (hs : Heap.SameBut (s.heap.objs.size + 1) s1.heap h') (hO : ObjOk X.prog X.w (upd H1 D o) h' D o) (tk : Nat) : Inv X pins σ (upd H1 D o) { s1 with heap := h', toks := tk } := by
  have u := I1.base
  have hCn : H1 (s.heap.objs.size + 1) = none := I1.free
  have hDo : ∀ b ob, s.heap.get? b = some ob → b ≠ D := fun b ob e z => by
    have := Heap.lt_size e
    have z' : @Eq Nat b D := z
    have q : @LT.lt Nat _ b s.heap.objs.size := this
    omega
  have hCo : ∀ b ob, s.heap.get? b = some ob → b ≠ s.heap.objs.size + 1 := fun b ob e z => by
    have q : @LT.lt Nat _ b s.heap.objs.size := Heap.lt_size e
    have z' : @Eq Nat b (s.heap.objs.size + 1) := z
    omega
  have hDs : H D = none := I.hok.fresh hD
  have cut : ∀ b ob, s.heap.get? b = some ob → ∀ oc, s1.heap.get? b = some oc → h'.get? b = some oc := fun b ob e oc q => (hs.2 b (hCo b ob e)).trans q
  refine Inv.call' (ch := fp) I (s' := { s1 with heap := h', toks := tk }) I1.os ?_ ?_ I1.bare fun b hb => ⟨(hfp b hb).2.2.2.1, (hfp b hb).2.1, (hfp b hb).2.2.2.2.1, (hfp b hb).2.2.2.2.2⟩
  · refine ⟨fun b ob e n hb hx => cut b ob e _ (u.keep b ob e n hb hx), fun b ob e n hb hx => ?_, fun b ob e n hx => ?_, fun b ob e hx => ?_, fun b xs e => ?_, fun b ob xs e => ?_, fun b ps e => ?_⟩
    · obtain ⟨sl, q⟩ := u.slot b ob e n hb hx
      exact ⟨sl, cut b ob e _ q⟩
    · rw [upd_ne (hDo b ob e)]; exact u.free b ob e n hx
    · obtain ⟨o', q⟩ := u.there b ob e hx
      exact ⟨o', cut b ob e _ q⟩
    · rw [upd_ne (ne_of_none e hDs)]; exact u.tups b xs e
    · rw [upd_ne (ne_of_none e hDs)]; exact u.frzs b ob xs e
    · rw [upd_ne (ne_of_none e hDs)]; exact u.tbls b ps e
  · intro b ob e
    by_cases hb : b = D
    · subst hb; rw [upd_same] at e; cases e; exact hO
    · rw [upd_ne hb] at e
      refine (I1.hok b ob e).stay (fun c q hc g => ?_) (fun c q => by rw [upd_ne (ne_of_none q hDn)]; exact q) fun c xs q => by rw [upd_ne (ne_of_none q hDn)]; exact q
      refine (hs.2 c ?_).trans g
      rcases hc with z | z
      · rw [z]; exact ne_of_none e hCn
      · exact ne_of_none z hCn
end

/-! ### the loop of a list comprehension -/
abbrev Nev : Value → Shared → Prop := fun _ _ => False
def oneTest (env : Env) (c : Expr) (b : Bool) : Sem (ForInStep Bool) :=
  if b = true then (isTrue c env (eval c env) >>= fun b' => pure (.yield b')) else pure (.yield b)
/-- the tests of a clause, the first that fails ends them -/
def allTests (env : Env) (cs : List Expr) : Sem Bool := forIn cs true (oneTest env)
/-- a block of one clause: what it adds, its target, its source, its tests, its names -/
structure Blk where
  add : Expr
  tgt : Expr
  src : Expr
  cs : List Expr
  sc : Scope
  pos : Pos
namespace Blk
variable (B : Blk)
abbrev expr : Expr := .ListComp B.add [⟨B.tgt, B.src, B.cs, 0⟩] B.sc B.pos
section
variable (prog : Program) (w : World) (A : Around) (env : Env) (it acc : Value)
/-- a program that raises nothing -/
abbrev Tame {α : Type} (e : Sem α) (Q : α → Shared → Prop) (s : Shared) : Prop := wpAny (model prog w) A e Q Nev s
/-- the added item laid behind the others -/
def Lays (J : Shared → Prop) : Bool → Shared → Prop
  | false, s => J s
  | true, s => Tame prog w A (eval B.add env) (fun x => Tame prog w A (call (.builtin "list.append") [acc, x]) fun _ => J) s
/-- an item taken -/
def Takes (J : Shared → Prop) (v : Value) : Shared → Prop :=
  Tame prog w A (letOwnedTupleGo B.tgt it v) fun _ => Tame prog w A (assign B.tgt env v) fun _ => Tame prog w A (allTests env B.cs) (B.Lays prog w A env acc J)
/-- what the source's next answer leads to -/
def Next (D J : Shared → Prop) : Option Value → Shared → Prop
  | none => D
  | some v => B.Takes prog w A env it acc J v
end
theorem loops {B : Blk} {prog : Program} {w : World} {A : Around} {env : Env} {it acc : Value} {R : Result → Shared → Prop} (G : Nat → Shared → Prop)
    (turn : ∀ k t, G k t → Tame prog w A (pyNext it) (B.Next prog w A env it acc (R (.ok .next)) fun u => ∃ j, j < k ∧ G j u) t)
    {k : Nat} {t : Shared} (g : G k t) : codeAny (model prog w) A (.compLoop B.expr 0 it acc env) R t := by
  have one : ∀ k t, G k t → Tame prog w A (compTurn B.expr 0 it acc env) (fun x t' => match x with | .done r => R (.ok r) t' | .again c => c = .compLoop B.expr 0 it acc env ∧ ∃ j, j < k ∧ G j t') t := by
    intro k t g
    rw [show B.expr = .ListComp B.add [⟨B.tgt, B.src, B.cs, 0⟩] B.sc B.pos from rfl, compTurn_list]
    apply wpAny_bind; apply wpAny_standAt; apply wpAny_bind
    refine thn (turn k t g) fun x t1 h1 => ?_
    match x, h1 with
    | none, h1 => exact wpAny_pure h1
    | some v, h1 =>
      apply wpAny_bind; refine thn h1 fun _ t2 h2 => ?_
      apply wpAny_bind; refine thn h2 fun _ t3 h3 => ?_
      apply wpAny_bind; refine thn h3 fun b t4 h4 => ?_
      match b, h4 with
      | false, h4 => exact wpAny_pure ⟨rfl, h4⟩
      | true, h4 =>
        apply wpAny_bind; apply wpAny_bind
        refine thn h4 fun y t5 h5 => ?_
        apply wpAny_bind
        refine thn h5 fun _ t6 h6 => ?_
        exact wpAny_pure (wpAny_pure ⟨rfl, h6⟩)
  exact codeAny_loop rfl G (fun k t g => wpAny_noted (wpAny_mono (one k t g) (fun _ _ q => q) fun _ _ f => f.elim)) k g
end Blk

/-- the tests of a clause -/
def PIfs (X : Cx) (ifs : List Expr) (t : TT) : Prop :=
  ∀ (pins : List (Addr × Obj)) (s : Shared) (σ : St) (H : Hp) (Q : Bool → Hp → Prop), Inv X pins σ H s → t σ H Q →
    wpAny (model X.prog X.w) X.A (allTests X.env ifs) (TP X pins σ Q) X.xe s
def tYes : TT := fun _ H Q => Q true H
theorem pifs_nil {X : Cx} : PIfs X [] tYes := fun _ _ _ H _ I h => wpAny_tests_nil ⟨H, I, h⟩
theorem pifs_one {X : Cx} {c : Expr} {t : TT} (h : PT X c t) : PIfs X [c] t := fun pins s σ H Q I q => wpAny_tests_one (h pins s σ H Q I q)

/-- a target sets the block's own names alone -/
def GK (n : Nat) (g : TG) : Prop := ∀ v σ H Q, g v σ H Q → g v σ H fun σ' H' => Q σ' H' ∧ σ'.length = σ.length ∧ ∀ j, n ≤ j → σ'[j]? = σ[j]?
def GKs (n : Nat) (g : TGs) : Prop := ∀ vs σ H Q, g vs σ H Q → g vs σ H fun σ' H' => Q σ' H' ∧ σ'.length = σ.length ∧ ∀ j, n ≤ j → σ'[j]? = σ[j]?
theorem gk_name {n i : Nat} (h : i < n) : GK n (gName i) := fun v σ H Q q => ⟨q, by simp, fun j hj => by rw [List.getElem?_set_ne (by omega)]⟩
theorem gks_nil {n : Nat} : GKs n gNil := fun vs σ H Q q => ⟨q.1, q.2, rfl, fun _ _ => rfl⟩
theorem gks_cons {n : Nat} {t : TG} {u : TGs} (m : ∀ v σ H Q Q', (∀ σ' H', Q σ' H' → Q' σ' H') → t v σ H Q → t v σ H Q') (mu : ∀ v σ H Q Q', (∀ σ' H', Q σ' H' → Q' σ' H') → u v σ H Q → u v σ H Q') (h1 : GK n t) (h2 : GKs n u) : GKs n (gCons t u) := fun vs σ H Q ⟨v, r, e, q⟩ =>
  ⟨v, r, e, m _ _ _ _ _ (fun σ' H' ⟨q', l1, k1⟩ => mu _ _ _ _ _ (fun σ2 H2 ⟨q2, l2, k2⟩ => ⟨q2, l2.trans l1, fun j hj => (k2 j hj).trans (k1 j hj)⟩) (h2 _ _ _ _ q')) (h1 _ _ _ _ q)⟩
theorem gk_tup {K : PySem.W.Frag} {n k : Nat} {t : TGs} (h : GKs n t) : GK n (gTup K k t) := fun v σ H Q ⟨a, xs, e, sq, l, q⟩ => ⟨a, xs, e, sq, l, h _ _ _ _ q⟩
theorem gn_mono {i : Nat} : ∀ v σ H Q Q', (∀ σ' H', Q σ' H' → Q' σ' H') → gName i v σ H Q → gName i v σ H Q' := fun _ _ _ _ _ m q => m _ _ q
theorem gnil_mono : ∀ v σ H Q Q', (∀ σ' H', Q σ' H' → Q' σ' H') → gNil v σ H Q → gNil v σ H Q' := fun _ _ _ _ _ m q => ⟨q.1, m _ _ q.2⟩
theorem gcons_mono {t : TG} {u : TGs} (m : ∀ v σ H Q Q', (∀ σ' H', Q σ' H' → Q' σ' H') → t v σ H Q → t v σ H Q') (mu : ∀ v σ H Q Q', (∀ σ' H', Q σ' H' → Q' σ' H') → u v σ H Q → u v σ H Q') : ∀ v σ H Q Q', (∀ σ' H', Q σ' H' → Q' σ' H') → gCons t u v σ H Q → gCons t u v σ H Q' :=
  fun _ _ _ _ _ mq ⟨v, r, e, q⟩ => ⟨v, r, e, m _ _ _ _ _ (fun _ _ q' => mu _ _ _ _ _ mq q') q⟩
theorem gk_two {K : PySem.W.Frag} {n k i j : Nat} (h1 : i < n) (h2 : j < n) : GK n (gTup K k (gCons (gName i) (gCons (gName j) gNil))) :=
  gk_tup (gks_cons gn_mono (gcons_mono gn_mono gnil_mono) (gk_name h1) (gks_cons gn_mono gnil_mono (gk_name h2) gks_nil))
/-- what is wanted of a list comprehension's loop: W by the turn, a measure, the items so far, the heap -/
def lcLoop (own : List Str) (fr : List Nat) (g : TG) (tt : TT) (te : TE) (σ : St) (Q : VK) (J : It) (H1 : Hp) : Prop :=
  ∃ W : Nat → Nat → List V → Hp → Prop, (∃ m, W 0 m [] H1) ∧ ∀ i m ys H2, W i m ys H2 → ys.length ≤ sizeLine ∧
    ((J.stop i H2 ∧ ∀ D, H2 D = none → Q (.ref D) (upd H2 D (.lst ys))) ∨
     (J.go i H2 ∧ ∀ x H3, J.yld i H2 x H3 → g x (cSt own fr σ) H3 fun σ4 H4 => tt σ4 H4 fun b H5 => if b = true then te σ4 H5 fun y H6 => ∃ m', m' < m ∧ W (i + 1) m' (ys ++ [y]) H6 else ∃ m', m' < m ∧ W (i + 1) m' ys H5))
def tLC (own : List Str) (fr : List Nat) (wi : TI) (g : TG) (tt : TT) (te : TE) : TE := fun σ H Q => wi σ H (lcLoop own fr g tt te σ Q)

section
variable {X : Cx} {own : List Str} {fr : List Nat} {sc : Scope} {tg iter elt : Expr} {ifs : List Expr} {pos : Pos} {wi : TI} {g : TG} {tt : TT} {te : TE}
theorem lc_core {pins : List (Addr × Obj)} {σ : St} {H2 : Hp} {s2 : Shared} {Q : VK} {it : Addr} {fp : List Addr} {tn : Nat → Heap → Prop} {J : It} {RR : Value → Addr → Result → Shared → Prop} {E : Value → Shared → Prop} (hc : X.calm = true) (S : CompSc X own fr sc) (gk : GK own.length g)
    (hg : ∀ s H fp, PG (cxC X own fr sc s H fp) tg g) (ht : ∀ s H fp, PIfs (cxC X own fr sc s H fp) ifs tt) (he : ∀ s H fp, PE (cxC X own fr sc s H fp) elt te)
    (I2 : Inv X pins σ H2 s2) (T : Turn X.prog X.w X.K tg J fp it tn) (st2 : tn 0 s2.heap) (f2 : ∀ b ∈ fp, FpOk X pins H2 b) (L : lcLoop own fr g tt te σ Q J H2)
    (hRR : ∀ D C s', (∃ m, s'.heap.Ns C m) → @LE.le Nat _ s2.heap.objs.size C → (∃ H', H' C = none ∧ Q (.ref D) H' ∧ ∀ h' tk, Heap.SameBut C s'.heap h' → Inv X pins σ H' { s' with heap := h', toks := tk }) → RR (.ref D) C (.ok .next) s') :
    wpAny (model X.prog X.w) X.A (newList []) (fun acc s₃ => wpAny (model X.prog X.w) X.A (newFunctionEnv sc X.env.globals (clOf X.env sc.names []) [] X.env.qual none .none (some X.env)) (fun cenv s₄ =>
      codeAny (model X.prog X.w) X.A (.compStart (.ListComp elt [⟨tg, iter, ifs, 0⟩] sc pos) 0 (.ref it) acc { cenv with scope := relabel sc X.env }) (RR acc cenv.locals) s₄) E s₃) E s2 := by
  obtain ⟨W, ⟨m0, w0⟩, turn⟩ := L
  refine wpAny_newObj_type (newEnv_comp ?_)
  dsimp only
  generalize hh1 : s2.heap.push { cls := .type "list", dict := none, data := .seq ([] : List Value).toArray } = h1
  have hz : h1.objs.size = s2.heap.objs.size + 1 := by rw [← hh1, Heap.size_push]
  have hk1 : ∀ b o, s2.heap.get? b = some o → h1.get? b = some o := fun b o e => by rw [← hh1]; exact Heap.get?_push_of_some _ e
  have hD1 : h1.get? s2.heap.objs.size = some { cls := .type "list", data := .seq ([] : List Value).toArray } := by rw [← hh1]; exact Heap.get?_push_size _ rfl
  have hfl : ∀ b ∈ fp, @LT.lt Nat _ b s2.heap.objs.size := fun b hb => by
    obtain ⟨o, e, _⟩ := T.obj _ _ st2 b hb
    exact Heap.lt_size e
  have I3 := inv_comp I2 S f2 hz hk1 hfl
  rw [hz]
  generalize hY : cxC X own fr sc s2 H2 fp = Y at I3
  have hD3 : (hC s2 sc h1).get? s2.heap.objs.size = some { cls := .type "list", data := .seq ([] : List Value).toArray } := pushCells_keeps _ _ _ _ (Heap.get?_push_of_some _ hD1)
  have st3 : tn 0 (hC s2 sc h1) := T.keep _ _ _ st2 fun b _ o e => pushCells_keeps _ _ _ _ (Heap.get?_push_of_some _ (hk1 b o e))
  have eP : Y.prog = X.prog := by rw [← hY]; rfl
  have eW : Y.w = X.w := by rw [← hY]; rfl
  have eK : Y.K = X.K := by rw [← hY]; rfl
  have eA : Y.A = X.A := by rw [← hY]; rfl
  have eX : Y.xe = Nev := by rw [← hY]; rfl
  have ecm : Y.calm = true := by rw [← hY]; exact hc
  have eEnv : ({ scope := relabel sc X.env, locals := s2.heap.objs.size + 1, globals := X.env.globals, cells := cellsFrom (s2.heap.objs.size + 1 + 1) sc.names (clOf X.env sc.names []), qual := X.env.qual, func := none, code := X.env.code, frame := X.env.frame, builtins := X.env.builtins } : Env) = Y.env := by rw [← hY]; rfl
  have eL : Y.env.locals = s2.heap.objs.size + 1 := by rw [← hY]; rfl
  rw [eEnv]
  have hg' : PG Y tg g := hY ▸ hg s2 H2 fp
  have ht' : PIfs Y ifs tt := hY ▸ ht s2 H2 fp
  have he' : PE Y elt te := hY ▸ he s2 H2 fp
  -- the iterator's and the list's places, in the block
  have dfp : s2.heap.objs.size ∉ fp := fun z => Nat.lt_irrefl _ (hfl _ z)
  have dC : s2.heap.objs.size ≠ s2.heap.objs.size + 1 := Nat.ne_of_lt (Nat.lt_succ_self _)
  have cellN : ∀ x c, Y.env.cells.lookup x = some c → c ≠ s2.heap.objs.size := fun x c e z => by
    obtain ⟨v, o, q, d⟩ := I3.cell x c e
    rw [z] at q
    have q' := hD3.symm.trans q
    cases q'
    cases d
  have hDfs : s2.heap.objs.size ∉ Y.fs := by
    rw [← hY]
    intro z
    rcases List.mem_cons.mp (I2.stkSub _ z) with e | e
    · exact Nat.lt_irrefl _ (by have := I2.lt; rw [← e] at this; exact this)
    · exact I2.nofs (Nat.le_refl _) e
  have hD0 : @LE.le Nat _ Y.s₀.heap.objs.size s2.heap.objs.size := by rw [← hY]; exact Nat.le_refl _
  have fpY : ∀ {H' : Hp} {pp : List (Addr × Obj)}, (∀ b ∈ fp, H' b = none) → (∀ p ∈ pp, p.1 ∉ fp) → ∀ b ∈ fp, FpOk Y pp H' b := fun {H' pp} hn hp b hb => by
    refine ⟨hn b hb, ?_, ?_, ?_, ?_, fun p hq z => ?_⟩
    · have := hfl b hb; rw [eL]; intro z; have z' : @Eq Nat b (s2.heap.objs.size + 1) := z; omega
    · rw [← hY]
      intro z
      rcases List.mem_cons.mp (I2.stkSub _ z) with e | e
      · exact (f2 b hb).2.1 e
      · exact (f2 b hb).2.2.1 e
    · exact .inl (by rw [← hY]; exact hb)
    · exact (I3.ok.exf b (by rw [← hY]; exact hb)).2
    · rcases List.mem_append.mp hq with q | q
      · have : p ∈ ([] : List (Addr × Obj)) := by rw [← hY] at q; exact q
        exact nomatch this
      · exact hp p q (z ▸ hb)
  have pinD : ∀ {H' : Hp} {s' : Shared} {σ' : St} {ob : Obj}, Inv Y [] σ' H' s' → H' s2.heap.objs.size = none → s'.heap.get? s2.heap.objs.size = some ob → (∀ v, ob.data ≠ .cell v) → Inv Y [(s2.heap.objs.size, ob)] σ' H' s' := fun {H' s' σ' ob} J0 hn e d =>
    J0.pins_of fun p hp => by
      have : p = (s2.heap.objs.size, ob) := by simpa using hp
      subst this
      exact ⟨e, hn, by rw [eL]; exact dC, hDfs, d⟩
  have fpp : ∀ {ob : Obj} (p : Addr × Obj), p ∈ [(s2.heap.objs.size, ob)] → p.1 ∉ fp := fun {ob} p hp => by
    have : p = (s2.heap.objs.size, ob) := by simpa using hp
    subst this; exact dfp
  have loop : codeAny (model X.prog X.w) X.A (.compLoop (.ListComp elt [⟨tg, iter, ifs, 0⟩] sc pos) 0 (.ref it) (.ref s2.heap.objs.size) Y.env) (RR (.ref s2.heap.objs.size) (s2.heap.objs.size + 1)) { s2 with heap := hC s2 sc h1 } := by
    refine Blk.loops (B := ⟨elt, tg, iter, ifs, sc, pos⟩) (fun n s' => ∃ i ys us k H', W i n ys H' ∧ Inv Y [] (cSt own fr σ) H' s' ∧ tn i s'.heap ∧ (∀ b ∈ fp, H' b = none) ∧ H' s2.heap.objs.size = none ∧ s'.heap.get? s2.heap.objs.size = some { cls := .type "list", data := .seq (List.toArray us) k } ∧ Vals ys us) ?_ (k := m0)
      ⟨0, [], [], _, H2, w0, I3, st3, fun b hb => (f2 b hb).1, I2.hok.fresh (Nat.le_refl _), hD3, .nil⟩
    rintro n s' ⟨i, ys, us, k, H', w', J0, st', fr', hDn, hDo, rv⟩
    obtain ⟨hyl, cases'⟩ := turn i n ys H' w'
    have J1 := pinD J0 hDn hDo (fun v z => nomatch z)
    rcases cases' with ⟨stop, fin⟩ | ⟨go, step⟩
    · have d0 := T.done Y eP eW eK ecm i _ s' _ H' Nev J1 (fpY fr' fpp) st' stop
      rw [eA] at d0
      refine wpAny_mono d0 (fun r s4 ⟨hr, J4⟩ => ?_) fun _ _ z => z
      subst hr
      have pD := (J4.pin (s2.heap.objs.size, _) (List.mem_append_right _ List.mem_cons_self)).1
      refine hRR _ _ s4 ?_ (Nat.le_succ _) ⟨upd H' s2.heap.objs.size (.lst ys), ?_, fin _ hDn, fun h' tk hs => ?_⟩
      · obtain ⟨m, hn, _⟩ := J4.loc
        rw [eL] at hn
        exact ⟨m, hn⟩
      · rw [upd_ne (Ne.symm dC), ← eL]; exact J4.free
      · subst hY
        have hO : ObjOk X.prog X.w (upd H' s2.heap.objs.size (.lst ys)) h' s2.heap.objs.size (.lst ys) := ⟨hyl, us, k, rv, (hs.2 _ dC).trans pD⟩
        exact inv_back I2 f2 J4 (Nat.le_refl _) hDn dC hs hO tk
    · have d0 := T.item Y eP eW eK ecm i _ s' _ H' Nev J1 (fpY fr' fpp) st' go
      rw [eA] at d0
      refine wpAny_mono d0 (fun r s4 ⟨u, hr, h4⟩ => ?_) fun _ _ z => z
      subst hr
      refine wpAny_mono h4 (fun _ s5 ⟨x, H5, J5, r5, y5, st5, fr5⟩ => ?_) fun _ _ z => z
      have J5' := J5.pinned (fpY fr5 fpp) (T.obj _ _ st5)
      have s1 := hg' _ s5 _ H5 x u _ J5' r5 (gk _ _ _ _ (step x H5 y5))
      rw [eP, eW, eA, eX] at s1
      refine wpAny_mono s1 (fun _ s6 ⟨σ6, H6, J6, q6, kp6⟩ => ?_) fun _ _ z => z
      have s2' := ht' _ s6 σ6 H6 _ J6 q6
      rw [eP, eW, eA, eX] at s2'
      refine wpAny_mono s2' (fun ok s7 ⟨H7, J7, q7⟩ => ?_) fun _ _ z => z
      -- the turn's end
      have low : ∀ {H8 : Hp} {s8 : Shared}, Inv Y ([(s2.heap.objs.size, ({ cls := .type "list", data := .seq (List.toArray us) k } : Obj))] ++ pinsAt fp s5.heap) σ6 H8 s8 →
          Inv Y (pinsAt fp s5.heap) σ6 H8 s8 ∧ H8 s2.heap.objs.size = none ∧ s8.heap.get? s2.heap.objs.size = some { cls := .type "list", data := .seq (List.toArray us) k } ∧ (∀ b ∈ fp, H8 b = none) ∧ tn (i + 1) s8.heap := fun {H8 s8} J8 => by
        have p8 := J8.pin (s2.heap.objs.size, _) (List.mem_append_right _ (List.mem_append_left _ List.mem_cons_self))
        refine ⟨J8.pins_of fun p hp => J8.pin p (List.mem_append_right _ (List.mem_append_right _ hp)), p8.2.1, p8.1, fun b hb => ?_, T.keep _ _ _ st5 fun b hb o e => (J8.pin (b, o) (List.mem_append_right _ (List.mem_append_right _ (mem_pinsAt hb e)))).1⟩
        obtain ⟨o, e, d⟩ := T.obj _ _ st5 b hb
        exact (J8.pin (b, o) (List.mem_append_right _ (List.mem_append_right _ (mem_pinsAt hb e)))).2.1
      have weak : ∀ {H8 : Hp} {s8 : Shared} {pp : List (Addr × Obj)}, Inv Y pp σ6 H8 s8 → Inv Y [] (cSt own fr σ) H8 s8 := fun {H8 s8 pp} J8 => (J8.weak kp6.1.symm (fun j v e => by
        by_cases hj : j < own.length
        · exfalso
          unfold cSt at e
          rw [List.getElem?_append_left (by simpa using hj), List.getElem?_replicate] at e
          split at e <;> cases e
        · rw [kp6.2 j (Nat.not_lt.mp hj)]; exact e)).pins_of fun p hp => nomatch hp
      cases ok with
      | false =>
        obtain ⟨m', hm, w7⟩ := (show ∃ m', m' < n ∧ W (i + 1) m' ys H7 by simpa using q7)
        obtain ⟨_, l1, l2, l3, l4⟩ := low J7
        exact ⟨m', hm, i + 1, ys, us, k, H7, w7, weak J7, l4, l3, l1, l2, rv⟩
      | true =>
        have q7' : te σ6 H7 fun y H6 => ∃ m', m' < n ∧ W (i + 1) m' (ys ++ [y]) H6 := by simpa using q7
        have s3 := he' _ s7 σ6 H7 _ J7 q7'
        rw [eP, eW, eA, eX] at s3
        show wpAny _ _ _ _ _ _
        refine wpAny_mono s3 (fun xv s8 ⟨y, H8, J8, r8, m', hm, w8⟩ => ?_) fun _ _ z => z
        obtain ⟨J8a, l1, l2, l3, l4⟩ := low J8
        refine append_at (hsz := by rw [List.size_toArray, ← rv.length]; exact hyl) l2 fun h' hs' hD' => ?_
        have J9 : Inv Y [] (cSt own fr σ) H8 { s8 with heap := h' } := by
          refine (weak J8a).turned (t' := s8.toks) (it := s2.heap.objs.size) (fun b o hb e => (hs'.2 b hb).trans e) l1 (by rw [eL]; exact dC) (.inr hD0) cellN fun p hp => ?_
          have : p ∈ ([] : List (Addr × Obj)) := by rw [← hY] at hp; exact hp
          exact nomatch this
        refine ⟨m', hm, i + 1, ys ++ [y], us ++ [xv], k + 1, H8, w8, J9, ?_, l3, l1, ?_, rv.append (.cons r8 .nil)⟩
        · exact T.keep _ _ _ l4 fun b hb o e => (hs'.2 b (fun z => dfp (z ▸ hb))).trans e
        · rw [hD']; simp
  exact codeAny_compStart_list loop (T.self X.A 0 _ _ _ st3 loop)
/-- [elt for tg in iter if ..] -/
theorem pe_lc (own : List Str) (fr : List Nat) (hc : X.calm = true) (S : CompSc X own fr sc) (gk : GK own.length g) (hi : PI X tg iter wi)
    (hg : ∀ s H fp, PG (cxC X own fr sc s H fp) tg g) (ht : ∀ s H fp, PIfs (cxC X own fr sc s H fp) ifs tt) (he : ∀ s H fp, PE (cxC X own fr sc s H fp) elt te)
    (hs : ∀ x, foldedSetIterable iter X.env x = pure x := by intro _; rfl) : PE X (.ListComp elt [⟨tg, iter, ifs, 0⟩] sc pos) (tLC own fr wi g tt te) := by
  intro pins s σ H Q I h
  rw [eval_ListComp]
  have hclos : closureFor sc X.env = pure (clOf X.env sc.names []) := closureFor_of fun y hy hf => I.ok.has y.1 (by
    rcases S.fre y hy hf with q | q
    · exact .inl q
    · exact .inr q)
  refine wpAny_comprehension_free (use := none) rfl hs hclos S.kind (fun y hy hl => lookup_of_mem_nd S.nd (by rw [← hl]; exact hy)) ?_
  refine thn (hi pins s σ H _ I h) fun v s1 h1 => thn h1 fun itv s2 h2 => ?_
  obtain ⟨it, fp, tn, J, H2, e, I2, T, st2, f2, L⟩ := h2
  subst e
  exact lc_core hc S gk hg ht he I2 T st2 f2 L fun D C s' ⟨m, hn⟩ _ ⟨H', _, q, hi⟩ => ⟨m, hn, fun h' hs' => ⟨.ref D, H', hi h' s'.toks hs', rfl, q⟩⟩
end
/-- a block's value stored by a name of this frame: behind the block its frame may still change -/
theorem stored_use {X : Cx} {pins : List (Addr × Obj)} {σ : St} {H2 : Hp} {s2 s' : Shared} {i : Nat} {x : Str} {pos' : Pos} {D : Addr} {C : Addr} {R : St → Hp → Prop} {E : Value → Shared → Prop} (I2 : Inv X pins σ H2 s2) (hN : X.N.Nodup) (hi : X.N[i]? = some x) (hx : X.env.scope.names.lookup x = some .local)
    (ns : ∃ m, s'.heap.Ns C m) (le : @LE.le Nat _ s2.heap.objs.size C) (h : ∃ H', H' C = none ∧ R (σ.set i (some (.ref D))) H' ∧ ∀ h' tk, Heap.SameBut C s'.heap h' → Inv X pins σ H' { s' with heap := h', toks := tk }) :
    wpAny (model X.prog X.w) X.A (assign (.Name x pos') X.env (.ref D)) (fun _ s'' => ∃ m, s''.heap.Ns C m ∧ ∀ h', Heap.SameBut C s''.heap h' → ∃ σ1 H1, Inv X pins σ1 H1 { s'' with heap := h' } ∧ R σ1 H1) E s' := by
  obtain ⟨H', hC, q, hv⟩ := h
  have I' : Inv X pins σ H' s' := hv s'.heap s'.toks (Heap.SameBut.refl _ _)
  have lt : ∀ {b : Addr} {o : Obj}, s2.heap.get? b = some o → b ≠ C := fun {b o} e z => by
    have l1 : @LT.lt Nat _ b s2.heap.objs.size := Heap.lt_size e
    have z' : @Eq Nat b C := z
    omega
  have hLC : X.env.locals ≠ C := by
    obtain ⟨m, ⟨o, _, _, e, _⟩, _⟩ := I2.loc
    exact lt e
  have hcell : ∀ y c, X.env.cells.lookup y = some c → c ≠ C := fun y c e => by
    obtain ⟨v, o, e1, _⟩ := I2.cell y c e
    exact lt e1
  refine wpAny_assign_Name (store_ok2 I' hN hi (.inl hx) (show RelV (.ref D) (.ref D) from rfl) (fun s3 I3 ⟨a, hs, ha⟩ => ?_) (.inr hx))
  have aC : a ≠ C := by
    rcases ha with e | e
    · rw [e]; exact hLC
    · exact hcell _ _ e
  obtain ⟨m, hn⟩ := ns
  refine ⟨m, hn.sameBut hs (Ne.symm aC), fun h' hs' => ⟨_, H', ?_, q⟩⟩
  refine I3.turned (t' := s3.toks) (it := C) (fun b o hb e => (hs'.2 b hb).trans e) hC (Ne.symm hLC) (.inr ?_) hcell fun p hp => ?_
  · have := I2.sz
    exact Nat.le_trans this le
  · exact lt (I2.pin p hp).1
/-- name = [elt for tg in iter if ..], the name one of this frame -/
theorem ps_setL {X : Cx} {sc : Scope} {tg iter elt : Expr} {ifs : List Expr} {pos spos pos' : Pos} {wi : TI} {g : TG} {tt : TT} {te : TE} {i : Nat} {x : Str} (own : List Str) (fr : List Nat) (hN : X.N.Nodup) (hix : X.N[i]? = some x) (hx : X.env.scope.names.lookup x = some .local) (hc : X.calm = true) (S : CompSc X own fr sc) (gk : GK own.length g) (hi : PI X tg iter wi)
    (hg : ∀ s H fp, PG (cxC X own fr sc s H fp) tg g) (ht : ∀ s H fp, PIfs (cxC X own fr sc s H fp) ifs tt) (he : ∀ s H fp, PE (cxC X own fr sc s H fp) elt te)
    (hsw : swapsWith (.ListComp elt [⟨tg, iter, ifs, 0⟩] sc pos) (some (.Name x pos')) spos.line X.env = pure true := by rfl)
    (hs : ∀ x, foldedSetIterable iter X.env x = pure x := by intro _; rfl) : PS X (.Assign [.Name x pos'] (.ListComp elt [⟨tg, iter, ifs, 0⟩] sc pos) spos) (tAsg (tLC own fr wi g tt te) (gName i)) := by
  intro pins s σ H D I h
  rw [exec_Assign_Name_used _ _ _ _ hsw]
  apply wpAny_bind; apply wpAny_standAt; apply wpAny_bind
  show wpAny _ _ (comprehension (.ListComp elt [⟨tg, iter, ifs, 0⟩] sc pos) sc X.env _ (newList []) false (eval iter X.env) (some (assign (.Name x pos') X.env)) >>= _) _ _ s
  apply wpAny_bind
  have hclos : closureFor sc X.env = pure (clOf X.env sc.names []) := closureFor_of fun y hy hf => I.ok.has y.1 (by
    rcases S.fre y hy hf with q | q
    · exact .inl q
    · exact .inr q)
  refine wpAny_mono (wpAny_comprehension_free (use := some (assign (.Name x pos') X.env)) (Q := fun _ s' => SP X pins D .next s') rfl hs hclos S.kind (fun y hy hl => lookup_of_mem_nd S.nd (by rw [← hl]; exact hy)) ?_) (fun _ s' q => wpAny_pure (wpAny_pure q)) fun _ _ z => z
  refine thn (hi pins s σ H _ I h) fun v s1 h1 => thn h1 fun itv s2 h2 => ?_
  obtain ⟨it, fp, tn, J, H2, e, I2, T, st2, f2, L⟩ := h2
  subst e
  exact lc_core hc S gk hg ht he I2 T st2 f2 L fun D0 C s' ns le h => stored_use (R := D.nx) I2 hN hix hx ns le h
end L2

set_option Elab.async false
set_option linter.all false
set_option maxRecDepth 100000
set_option maxHeartbeats 4000000
namespace L2
open PySem PySem.Spec PyProof.Rows
/-! ### a text, sign by sign -/
def Its (x : Str) : It := ⟨fun i _ => i < x.cps.size, fun i H v H' => H' = H ∧ ∃ c, x.cps[i]? = some c ∧ v = .str ⟨#[c]⟩, fun i _ => i = x.cps.size⟩
theorem go_str {M : Model} {A : Around} {E : Value → Shared → Prop} {s : Shared} {tg : Expr} {it : Addr} {x : Str} {t : Tok} {Q : Unit → Shared → Prop} (hQ : Q () s) : wpAny M A (letOwnedTupleGo tg (.ref it) (.str x t)) Q E s := by
  unfold letOwnedTupleGo
  cases tg <;> exact wpAny_pure hQ
theorem turn_str {P : Program} {w : World} {K : PySem.W.Frag} {tg : Expr} {it : Addr} {x : Str} {t : Tok} {ty : String} (W : ∀ A : Around, A.handled = none → Walks P w A it [it] [it] x.cps.size (SignAt x) (fun i h => h.IsStrIter it ty x t i))
    (hself : ∀ (A : Around) (i : Nat) (s : Shared) (Q : Value → Shared → Prop) (E : Value → Shared → Prop), s.heap.IsStrIter it ty x t i → Q (.ref it) s → wpAny (model P w) A (pyIter (.ref it)) Q E s) :
    Turn P w K tg (Its x) [it] it (fun i h => h.IsStrIter it ty x t i) where
  mem := by simp
  obj := fun i h st b hb => by
    have e : b = it := by simpa using hb
    subst e
    obtain ⟨o, e, c, d⟩ := st
    exact ⟨o, e, fun v z => by rw [d] at z; cases z⟩
  keep := fun i h h' st k => by
    obtain ⟨o, e, r⟩ := st
    exact ⟨o, k it (by simp) o e, r⟩
  item := by
    intro X hP hw hK hc i pins s σ H E I hf st hg
    subst hP hw hK
    obtain ⟨f0, f1, f2, f3, f4, f5⟩ := hf it (by simp)
    refine (W X.A (I.ok.hd hc)).item i s _ _ hg st fun v h' tk hv st' kk => ?_
    obtain ⟨c, u, hx, rfl⟩ := hv
    have I1 : Inv X pins σ H { s with heap := h', toks := tk } := I.turned (fun b o hb e => kk b o (by simpa using hb) e) f0 f1 f3 f4 f5
    exact ⟨_, rfl, go_str ⟨.str ⟨#[c]⟩, H, I1, ⟨u, rfl⟩, ⟨rfl, c, hx, rfl⟩, st', fun b hb => (hf b hb).1⟩⟩
  done := by
    intro X hP hw hK hc i pins s σ H E I hf st hg
    subst hP hw hK
    obtain ⟨f0, f1, f2, f3, f4, f5⟩ := hf it (by simp)
    have hg' : i = x.cps.size := hg
    subst hg'
    exact (W X.A (I.ok.hd hc)).done s _ _ st fun h' tk kk => ⟨rfl, I.turned (fun b o hb e => kk b o (by simpa using hb) e) f0 f1 f3 f4 f5⟩
  self := hself
section
variable {X : Cx} {tg : Expr}
def iStr (tl : TE) : TI := fun σ H R => tl σ H fun x H1 => ∃ z, x = .str z ∧ R (Its z) H1
theorem pi_str {l : Expr} {tl : TE} (hl : PE X l tl) : PI X tg l (iStr tl) := by
  intro pins s σ H R I h
  refine thn (hl pins s σ H _ I h) fun v s1 ⟨x, H1, I1, r1, q1⟩ => ?_
  obtain ⟨z, rfl, q⟩ := q1
  obtain ⟨t, rfl⟩ := r1
  have fin : ∀ ty : String, (∀ A : Around, A.handled = none → Walks X.prog X.w A s1.heap.objs.size [s1.heap.objs.size] [s1.heap.objs.size] z.cps.size (SignAt z) (fun i h => h.IsStrIter s1.heap.objs.size ty z t i)) →
      (∀ (A : Around) (i : Nat) (s : Shared) (Q : Value → Shared → Prop) (E : Value → Shared → Prop), s.heap.IsStrIter s1.heap.objs.size ty z t i → Q (.ref s1.heap.objs.size) s → wpAny (model X.prog X.w) A (pyIter (.ref s1.heap.objs.size)) Q E s) →
      PIE X pins σ tg R (.ref s1.heap.objs.size) { s1 with heap := s1.heap.push { cls := .type ty, data := .fields #[.str z t, .int 0 0] } } := fun ty W hself => by
    refine ⟨s1.heap.objs.size, [s1.heap.objs.size], _, _, H1, rfl, I1.kept (t' := s1.toks) fun b o e => Heap.get?_push_of_some _ e, turn_str W hself, ⟨_, Heap.get?_push_size _ rfl, rfl, rfl⟩, fun b hb => ?_, q⟩
    have e : b = s1.heap.objs.size := by simpa using hb
    subst e
    exact I1.fpOk (Nat.le_refl _) (I1.hok.fresh (Nat.le_refl _))
  cases ha : z.cps.all (· < 128)
  · exact wpAny_pyIter_wide ha (fin _ (fun A hA => Walks.strWide hA _ z t) fun A i s Q E st q => wpAny_pyIter_striter_wide st q)
  · exact wpAny_pyIter_ascii ha (fin _ (fun A hA => Walks.strAscii hA _ z t) fun A i s Q E st q => wpAny_pyIter_striter_ascii st q)

/-! ### built-ins -/
theorem vals_bl_get : ∀ {bs : List Bool} {us : List Value} {i : Nat} {u : Value}, Vals (bs.map V.bl) us → us[i]? = some u → ∃ b, bs[i]? = some b ∧ u = .bool b
  | [], _, i, u, .nil, e => by simp at e
  | b :: bs, _, 0, u, .cons r _, e => by simp at e; subst e; exact ⟨b, rfl, r⟩
  | b :: bs, _, i + 1, u, .cons _ t, e => by
    obtain ⟨b', h1, h2⟩ := vals_bl_get (i := i) (u := u) t (by simpa using e)
    exact ⟨b', by simpa using h1, h2⟩
theorem range_all (bs : List Bool) : ((List.range bs.length).all fun i => bs.getD i false) = bs.all id := by
  induction bs with
  | nil => rfl
  | cons b bs ih =>
    rw [List.length_cons, List.range_succ_eq_map, List.all_cons, List.all_map, List.all_cons]
    have e : ((fun i => (b :: bs).getD i false) ∘ Nat.succ) = fun i => bs.getD i false := by funext i; simp
    rw [e, ih]; simp
theorem range_any (bs : List Bool) : ((List.range bs.length).any fun i => bs.getD i false) = bs.any id := by
  induction bs with
  | nil => rfl
  | cons b bs ih =>
    rw [List.length_cons, List.range_succ_eq_map, List.any_cons, List.any_map, List.any_cons]
    have e : ((fun i => (b :: bs).getD i false) ∘ Nat.succ) = fun i => bs.getD i false := by funext i; simp
    rw [e, ih]; simp
theorem call_all (hc : X.calm = true) : CallR X (.builtin "all") (fun xs H Q => ∃ (p : Addr) (bs : List Bool), xs = [.ref p] ∧ SqL X.K H p (bs.map V.bl) ∧ Q (.bl (bs.all id)) H) := by
  intro pins s σ H xs us Q I r h
  obtain ⟨p, bs, rfl, hq, q⟩ := h
  obtain ⟨u, rfl, rx⟩ := vals1 r
  cases rx
  obtain ⟨its, rv, pl, hz⟩ := I.list hq
  have hlt : p < s.heap.objs.size := by obtain ⟨o, n, e, _⟩ := pl; exact Heap.lt_size e
  have hlen : its.length = bs.length := by rw [← rv.length, List.length_map]
  refine call_all_walk (wpAny_pyIter_list pl.isList ?_)
  refine ⟨s.heap.objs.size, _, _, its.toArray.size, _, _, fun i => bs.getD i false, rfl, Walks.list (A := X.A.in1) (I.ok.hd hc) s.heap.objs.size p (Nat.ne_of_lt hlt) its.toArray, ⟨⟨_, Heap.get?_push_size _ rfl, rfl, rfl⟩, pl.isList.push _⟩, fun i v s' Q' E' hP hQ => ?_, fun h' tk hk => ?_⟩
  · obtain ⟨b, h1, rfl⟩ := vals_bl_get rv (by simpa using hP)
    refine wpAny_truthy_bool ?_
    have e : bs.getD i false = b := by rw [List.getD, h1]; rfl
    rw [← e]; exact hQ
  · rw [List.size_toArray, hlen, range_all]
    refine ⟨.bl _, H, ?_, rfl, q⟩
    have J : Inv X pins σ H { s with heap := h', toks := tk } := I.kept fun b o e => hk b o (fun z => absurd (Heap.lt_size e) (by rw [List.mem_singleton.mp z]; exact Nat.lt_irrefl _)) (Heap.get?_push_of_some _ e)
    exact J
theorem call_any (hc : X.calm = true) : CallR X (.builtin "any") (fun xs H Q => ∃ (p : Addr) (bs : List Bool), xs = [.ref p] ∧ SqL X.K H p (bs.map V.bl) ∧ Q (.bl (bs.any id)) H) := by
  intro pins s σ H xs us Q I r h
  obtain ⟨p, bs, rfl, hq, q⟩ := h
  obtain ⟨u, rfl, rx⟩ := vals1 r
  cases rx
  obtain ⟨its, rv, pl, hz⟩ := I.list hq
  have hlt : p < s.heap.objs.size := by obtain ⟨o, n, e, _⟩ := pl; exact Heap.lt_size e
  have hlen : its.length = bs.length := by rw [← rv.length, List.length_map]
  refine call_any_walk (wpAny_pyIter_list pl.isList ?_)
  refine ⟨s.heap.objs.size, _, _, its.toArray.size, _, _, fun i => bs.getD i false, rfl, Walks.list (A := X.A.in1) (I.ok.hd hc) s.heap.objs.size p (Nat.ne_of_lt hlt) its.toArray, ⟨⟨_, Heap.get?_push_size _ rfl, rfl, rfl⟩, pl.isList.push _⟩, fun i v s' Q' E' hP hQ => ?_, fun h' tk hk => ?_⟩
  · obtain ⟨b, h1, rfl⟩ := vals_bl_get rv (by simpa using hP)
    refine wpAny_truthy_bool ?_
    have e : bs.getD i false = b := by rw [List.getD, h1]; rfl
    rw [← e]; exact hQ
  · rw [List.size_toArray, hlen, range_any]
    refine ⟨.bl _, H, ?_, rfl, q⟩
    have J : Inv X pins σ H { s with heap := h', toks := tk } := I.kept fun b o e => hk b o (fun z => absurd (Heap.lt_size e) (by rw [List.mem_singleton.mp z]; exact Nat.lt_irrefl _)) (Heap.get?_push_of_some _ e)
    exact J
theorem call_isinst {T : String} : CallR X (.builtin "isinstance") (fun xs H Q => ∃ x t b, xs = [x, .ty T] ∧ TyOf X.K H x t ∧ PySem.W.kitOne X.K t (.type T) = some b ∧ Q (.bl b) H) := by
  intro pins s σ H xs us Q I r h
  obtain ⟨x, t, b, rfl, ty, e, q⟩ := h
  obtain ⟨u, v, rfl, ru, rv⟩ := vals2 r
  cases rv
  exact isinst_ok I ru ty e fun tk => ⟨.bl b, H, I.tok _, rfl, q⟩
theorem strs_of : ∀ {ys : List Str} {us : List Value}, Vals (ys.map V.str) us → StrsAre us ys
  | [], _, .nil => .nil
  | y :: ys, _, .cons r t => by obtain ⟨k, rfl⟩ := (show ∃ k, _ = Value.str y k from r); exact .cons y k (strs_of t)
theorem mt_join : MtR X "str.join" (fun x vs H Q => ∃ (sep : Str) (p : Addr) (ys : List Str), x = .str sep ∧ vs = [.ref p] ∧ SqL X.K H p (ys.map V.str) ∧ (ys.map (·.length)).sum + ys.length * sep.length ≤ 16777216 ∧ Q (.str (Txt.join sep ys)) H) := by
  intro pins s σ H x xs v us Q I rx r h
  obtain ⟨sep, p, ys, rfl, rfl, hq, hl, q⟩ := h
  obtain ⟨u, rfl, ru⟩ := vals1 r
  cases ru
  obtain ⟨t, rfl⟩ := rx
  obtain ⟨its, rv, pl, hz⟩ := I.list hq
  exact join_list pl.isList (by simpa using strs_of rv) hl fun t' k => ⟨.str _, H, I.tok _, ⟨t', rfl⟩, q⟩
theorem op_le_str : OpR X (compareOp .LtE) (fun x y H Q => ∃ i j, x = .str i ∧ y = .str j ∧ Q (.bl (!decide (j.cps.toList < i.cps.toList))) H) := by
  intro pins s σ H x y v u Q I rx ry h
  obtain ⟨i, j, rfl, rfl, q⟩ := h
  obtain ⟨t, rfl⟩ := rx
  obtain ⟨t', rfl⟩ := ry
  exact PySem.P.le_str ⟨.bl _, H, I, rfl, by simpa using q⟩
end

/-! ### the forms one uses of a list comprehension -/
theorem lc_range {own : List Str} {fr : List Nat} {g : TG} {tt : TT} {te : TE} {σ : St} {Q : VK} {lo : Int} {n : Nat} {H : Hp} (Pv : Nat → List V → Hp → Prop) (h0 : Pv 0 [] H) (hlen : ∀ i ys H, i ≤ n → Pv i ys H → ys.length ≤ sizeLine)
    (hs : ∀ i ys H (R : List V → Hp → Prop), i < n → Pv i ys H → (∀ ys' H', Pv (i + 1) ys' H' → R ys' H') → g (.int (lo + i)) (cSt own fr σ) H fun σ4 H4 => tt σ4 H4 fun b H5 => if b = true then te σ4 H5 fun y H6 => R (ys ++ [y]) H6 else R ys H5)
    (hd : ∀ ys H, Pv n ys H → ∀ D, H D = none → Q (.ref D) (upd H D (.lst ys))) : lcLoop own fr g tt te σ Q (Itr lo n) H := by
  refine ⟨fun i m ys H => m = n - i ∧ i ≤ n ∧ Pv i ys H, ⟨n, rfl, Nat.zero_le _, h0⟩, ?_⟩
  rintro i m ys H2 ⟨rfl, hi, p⟩
  refine ⟨hlen i ys H2 hi p, ?_⟩
  by_cases h : i < n
  · refine .inr ⟨h, fun x H3 hy => ?_⟩
    obtain ⟨rfl, rfl⟩ := hy
    exact hs i ys _ (fun ys' H' => ∃ m', m' < n - i ∧ (m' = n - (i + 1) ∧ i + 1 ≤ n ∧ Pv (i + 1) ys' H')) h p fun ys' H' q => ⟨n - (i + 1), by omega, rfl, h, q⟩
  · have e : i = n := by omega
    subst e
    exact .inl ⟨Nat.le_refl _, hd ys H2 p⟩
theorem lc_list {K : PySem.W.Frag} {a : Addr} {xs : List V} {own : List Str} {fr : List Nat} {g : TG} {tt : TT} {te : TE} {σ : St} {Q : VK} {H : Hp} (Pv : Nat → List V → Hp → Prop) (h0 : Pv 0 [] H) (hlen : ∀ i ys H, i ≤ xs.length → Pv i ys H → ys.length ≤ sizeLine)
    (hl : ∀ i ys H, i ≤ xs.length → Pv i ys H → SqL K H a xs)
    (hs : ∀ i x ys H (R : List V → Hp → Prop), xs[i]? = some x → Pv i ys H → (∀ ys' H', Pv (i + 1) ys' H' → R ys' H') → g x (cSt own fr σ) H fun σ4 H4 => tt σ4 H4 fun b H5 => if b = true then te σ4 H5 fun y H6 => R (ys ++ [y]) H6 else R ys H5)
    (hd : ∀ ys H, Pv xs.length ys H → ∀ D, H D = none → Q (.ref D) (upd H D (.lst ys))) : lcLoop own fr g tt te σ Q (Itl K a) H := by
  refine ⟨fun i m ys H => m = xs.length - i ∧ i ≤ xs.length ∧ Pv i ys H, ⟨xs.length, rfl, Nat.zero_le _, h0⟩, ?_⟩
  rintro i m ys H2 ⟨rfl, hi, p⟩
  refine ⟨hlen i ys H2 hi p, ?_⟩
  have q := hl i ys H2 hi p
  by_cases h : i < xs.length
  · refine .inr ⟨⟨xs, xs[i], q, by simp [h]⟩, fun x H3 hy => ?_⟩
    obtain ⟨rfl, hy⟩ := hy
    exact hs i x ys _ (fun ys' H' => ∃ m', m' < xs.length - i ∧ (m' = xs.length - (i + 1) ∧ i + 1 ≤ xs.length ∧ Pv (i + 1) ys' H')) (hy xs q) p fun ys' H' q => ⟨xs.length - (i + 1), by omega, rfl, h, q⟩
  · have e : i = xs.length := by omega
    subst e
    exact .inl ⟨⟨xs, q, Nat.le_refl _⟩, hd ys H2 p⟩
theorem lc_tup {K : PySem.W.Frag} {a : Addr} {xs : List V} {own : List Str} {fr : List Nat} {g : TG} {tt : TT} {te : TE} {σ : St} {Q : VK} {H : Hp} (Pv : Nat → List V → Hp → Prop) (h0 : Pv 0 [] H) (hlen : ∀ i ys H, i ≤ xs.length → Pv i ys H → ys.length ≤ sizeLine)
    (hl : ∀ i ys H, i ≤ xs.length → Pv i ys H → SqT K H a xs)
    (hs : ∀ i x ys H (R : List V → Hp → Prop), xs[i]? = some x → Pv i ys H → (∀ ys' H', Pv (i + 1) ys' H' → R ys' H') → g x (cSt own fr σ) H fun σ4 H4 => tt σ4 H4 fun b H5 => if b = true then te σ4 H5 fun y H6 => R (ys ++ [y]) H6 else R ys H5)
    (hd : ∀ ys H, Pv xs.length ys H → ∀ D, H D = none → Q (.ref D) (upd H D (.lst ys))) : lcLoop own fr g tt te σ Q (Itt K a) H := by
  refine ⟨fun i m ys H => m = xs.length - i ∧ i ≤ xs.length ∧ Pv i ys H, ⟨xs.length, rfl, Nat.zero_le _, h0⟩, ?_⟩
  rintro i m ys H2 ⟨rfl, hi, p⟩
  refine ⟨hlen i ys H2 hi p, ?_⟩
  have q := hl i ys H2 hi p
  by_cases h : i < xs.length
  · refine .inr ⟨⟨xs, xs[i], q, by simp [h]⟩, fun x H3 hy => ?_⟩
    obtain ⟨rfl, hy⟩ := hy
    exact hs i x ys _ (fun ys' H' => ∃ m', m' < xs.length - i ∧ (m' = xs.length - (i + 1) ∧ i + 1 ≤ xs.length ∧ Pv (i + 1) ys' H')) (hy xs q) p fun ys' H' q => ⟨xs.length - (i + 1), by omega, rfl, h, q⟩
  · have e : i = xs.length := by omega
    subst e
    exact .inl ⟨⟨xs, q, Nat.le_refl _⟩, hd ys H2 p⟩
end L2

set_option Elab.async false
set_option linter.all false
set_option maxRecDepth 100000
set_option maxHeartbeats 4000000
namespace L2
open PySem PySem.Spec PyProof.Rows
/-! ### texts, each once -/
def addS (σ : List Str) (z : Str) : List Str := if z ∈ σ then σ else z :: σ
def dist (zs : List Str) : List Str := zs.foldl addS []
theorem mem_addS {σ : List Str} {z k : Str} : k ∈ addS σ z ↔ k ∈ σ ∨ k = z := by
  unfold addS
  split
  · exact ⟨.inl, fun h => h.elim id fun e => by rw [e]; assumption⟩
  · rw [List.mem_cons]; exact or_comm
theorem len_addS (σ : List Str) (z : Str) : (addS σ z).length = if z ∈ σ then σ.length else σ.length + 1 := by
  unfold addS; split <;> simp
theorem dist_snoc (zs : List Str) (z : Str) : dist (zs ++ [z]) = addS (dist zs) z := by simp [dist, List.foldl_append]
theorem fold_le : ∀ (zs σ : List Str), (zs.foldl addS σ).length ≤ σ.length + zs.length
  | [], σ => by simp
  | z :: zs, σ => by
    have h := fold_le zs (addS σ z)
    rw [len_addS] at h
    simp only [List.foldl_cons, List.length_cons]
    split at h <;> omega
theorem dist_le (zs : List Str) : (dist zs).length ≤ zs.length := by
  have h := fold_le zs []
  rw [List.length_nil, Nat.zero_add] at h
  exact h
theorem fold_nd : ∀ (zs σ : List Str), zs.Nodup → (∀ z ∈ zs, z ∉ σ) → (zs.foldl addS σ).length = σ.length + zs.length
  | [], σ, _, _ => by simp
  | z :: zs, σ, nd, h => by
    rw [List.nodup_cons] at nd
    simp only [List.foldl_cons, List.length_cons]
    rw [fold_nd zs (addS σ z) nd.2 fun y hy q => ?_, len_addS, if_neg (h z List.mem_cons_self)]
    · omega
    · rcases mem_addS.mp q with q | q
      · exact h y (List.mem_cons_of_mem _ hy) q
      · exact nd.1 (q ▸ hy)
theorem dist_nd {zs : List Str} (nd : zs.Nodup) : (dist zs).length = zs.length := by
  have h := fold_nd zs [] nd fun _ _ h => nomatch h
  rw [List.length_nil, Nat.zero_add] at h
  exact h
theorem strs_at : ∀ {its : List Value} {zs : List Str} {i : Nat} {v : Value}, StrsAre its zs → its[i]? = some v → ∃ z t, zs[i]? = some z ∧ v = .str z t := by
  intro its zs i v h
  induction h generalizing i with
  | nil => intro e; simp at e
  | cons z t _ ih =>
    intro e
    cases i with
    | zero => simp at e; exact ⟨z, t, rfl, e.symm⟩
    | succ i => exact ih (by simpa using e)
theorem strs_len : ∀ {its : List Value} {zs : List Str}, StrsAre its zs → its.length = zs.length := by
  intro its zs h
  induction h with
  | nil => rfl
  | cons z t _ ih => simp [ih]
theorem of_strs : ∀ {its : List Value} {zs : List Str}, StrsAre its zs → Vals (zs.map V.str) its := by
  intro its zs h
  induction h with
  | nil => exact .nil
  | cons z t _ ih => exact .cons ⟨t, rfl⟩ ih
/-! ### set(texts) -/
section
variable {prog : Program} {w : World} {A : Around} {I S : Addr} {fp wr : List Addr} {G : Array GenState → Array GenState → Prop} {P : Nat → Value → Prop} {St : Nat → Shared → Prop} {zs : List Str} {R : Result → Shared → Prop}
/-- the set of some texts -/
abbrev TxtSet (prog : Program) (w : World) (h : Heap) (S : Addr) (zs : List Str) : Prop := h.SetOf (strKind prog w) S (fun k => decide (k ∈ dist zs)) (dist zs).length
theorem TxtSet.keep {h h' : Heap} (x : TxtSet prog w h S zs) (k : ∀ o, h.get? S = some o → h'.get? S = some o) : TxtSet prog w h' S zs := by
  obtain ⟨o, es, ep, t, ho, r⟩ := x
  exact ⟨o, es, ep, t, k o ho, r⟩
theorem TxtSet.more {h : Heap} {z : Str} (x : h.SetOf (strKind prog w) S (fun k => decide (k ∈ dist zs) || decide (k = z)) (if decide (z ∈ dist zs) = true then (dist zs).length else (dist zs).length + 1)) : TxtSet prog w h S (zs ++ [z]) := by
  have e1 : (fun k => decide (k ∈ dist (zs ++ [z]))) = fun k => decide (k ∈ dist zs) || decide (k = z) := by
    funext k; rw [dist_snoc, Bool.eq_iff_iff]; simp [mem_addS]
  have e2 : (dist (zs ++ [z])).length = if decide (z ∈ dist zs) = true then (dist zs).length else (dist zs).length + 1 := by
    rw [dist_snoc, len_addS]; simp
  unfold TxtSet
  rw [e1, e2]; exact x
theorem texts_in (W : WalksS prog w A.in1 I fp wr G zs.length P St) (off : S ∉ fp) (hz : ∀ i v, P i v → ∃ z t, zs[i]? = some z ∧ v = .str z t) (small : zs.length + 1 < scanBound) :
    ∀ (left i : Nat) (s : Shared), i + left = zs.length → St i s → TxtSet prog w s.heap S (zs.take i) →
      (∀ s', Moved (S :: wr) G s s' → TxtSet prog w s'.heap S zs → R (.ok (.ret .none)) s') → codeAny (model prog w) A (.builtin "set.update.loop" ⟨[.ref S, .ref I], []⟩) R s
  | 0, i, s, hi, st, x, k => by
    have e : zs.take i = zs := List.take_of_length_le (by omega)
    rw [show i = zs.length by omega] at st
    refine codeAny_builtin F.entry_set_update_loop ?_
    rw [Around.under_plainId F.plain_set_update_loop _]
    apply wpAny_bind
    refine W.done s _ _ st fun s' m => ?_
    exact wpAny_pure (k s' (m.mono fun b hb => List.mem_cons_of_mem _ hb) (by rw [e] at x; exact x.keep fun o ho => m.heap S o (fun hs => off (W.sub _ hs)) ho))
  | left + 1, i, s, hi, st, x, k => by
    refine codeAny_builtin F.entry_set_update_loop ?_
    rw [Around.under_plainId F.plain_set_update_loop _]
    apply wpAny_bind
    refine W.item i s _ _ (by omega) st fun v s1 p st1 m => ?_
    obtain ⟨z, t, ez, rfl⟩ := hz i v p
    have x1 := x.keep fun o ho => m.heap S o (fun hs => off (W.sub _ hs)) ho
    have et : zs.take (i + 1) = zs.take i ++ [z] := by rw [List.take_add_one, ez]; rfl
    have yes : (strKind prog w).is z (.str z t) = true := by show Value.isStrOf z (.str z t) = true; simp [Value.isStrOf]
    show wpAny _ A.in1 (holding [Value.str z t] (setAdd S (.str z t)) >>= _) _ _ s1
    apply wpAny_bind; apply wpAny_holding
    show wpAny _ A.in1 (holding _ _) _ _ _
    apply wpAny_holding; apply wpAny_bind
    refine (strKind prog w).pyHash yes ?_
    have few := dist_le (zs.take i)
    rw [List.length_take] at few
    refine wpAny_setAddHashed_of (knd := strKind prog w) (s := { s1 with toks := s1.toks + 1 }) yes rfl x1 (by omega) fun h2 sb x2 => ?_
    refine wpAny_pure ⟨plainId_quiet F.plain_set_update_loop _, texts_in W off hz small left (i + 1) _ (by omega) ?_ (by rw [et]; exact TxtSet.more x2) fun s3 m3 x3 => ?_⟩
    · exact W.frame _ s1 _ _ st1 (Nat.le_succ _) fun b hb o e => (sb.2 b fun z' => off (z' ▸ hb)).trans e
    · refine k s3 (Moved.trans W.gtrans ((m.mono fun b hb => List.mem_cons_of_mem _ hb).then_heap (Nat.le_succ _) fun b o hb e => ?_) m3) x3
      exact (sb.2 b fun z' => hb (by rw [z']; exact List.mem_cons_self)).trans e
end
section
variable {prog : Program} {w : World} {A : Around} {E : Value → Shared → Prop} {s : Shared}
/-- T(..) of a built-in type: its __new__, then its __init__ of what that made -/
theorem made_by {T newId initId : String} {args : List Value} {Q : Value → Shared → Prop} (ft : TypeCalled T newId initId) (hc : checkTypeCall T ⟨args, []⟩ = pure ())
    (h : codeAny (model prog w) A.in1 (.call (.builtin newId) ⟨.type T :: args, []⟩) (wants (fun x t => t.TypeIs x T ∧ codeAny (model prog w) A.in1 (.call (.builtin initId) ⟨x :: args, []⟩) (wants (fun r t' => r = .none ∧ Q x t') E) t) E) s) :
    wpAny (model prog w) A (call (.type T) args) Q E s := by
  have q1 := ft.made
  have q2 := ft.sub
  have q3 := ft.notType
  have q4 := ft.canCreate
  have q5 := ft.init.lookup
  obtain ⟨_, _, q6⟩ := ft.mro
  apply wpAny_call; apply codeAny_of_tree
  show wpAny _ _ (callAny (.type T) _) _ _ _
  apply wpAny_pure
  refine ⟨Code.quiet_builtin _ (by decide +kernel), codeAny_builtin PySem.F.entry_type_call ?_⟩
  rw [Around.under_plain (weight_type_call_type T args []) rfl]
  repeat (any_goals (first | wp_step | assumption))
  apply codeAny_mono h
  rintro (e | f) t k
  · exact k
  cases f <;> first | exact k.elim | skip
  rename_i x
  have q7 := ft.init.bind x
  obtain ⟨ty, k⟩ := k
  repeat (any_goals (first | wp_step | assumption))
  apply codeAny_mono k
  rintro (e | f) t' k'
  · exact k'
  cases f <;> first | exact k'.elim | skip
  obtain ⟨z, k'⟩ := k'
  cases z
  repeat (any_goals (first | wp_step | assumption))
theorem set_texts {l : Addr} {its : List Value} {zs : List Str} {Q : Value → Shared → Prop} (hh : A.handled = none) (hl : s.heap.IsList l its.toArray) (hz : StrsAre its zs) (small : zs.length + 1 < scanBound)
    (h : ∀ (h' : Heap) (tk : Nat), TxtSet prog w h' s.heap.objs.size zs → (∀ b o, s.heap.get? b = some o → h'.get? b = some o) → Q (.ref s.heap.objs.size) { s with heap := h', toks := tk }) :
    wpAny (model prog w) A (call (.type "set") [.ref l]) Q E s := by
  refine made_by PySem.F.called_set (PySem.F.typeCall_set_1 _) (code_set_new_1 (.ref l) fun led => ?_)
  generalize hh1 : s.heap.push { cls := .type "set", dict := none, data := .set #[] 0 (.fresh 0 0 led) } = h1
  have kp : ∀ b o, s.heap.get? b = some o → h1.get? b = some o := fun b o e => by rw [← hh1]; exact Heap.get?_push_of_some _ e
  have sz : h1.objs.size = s.heap.objs.size + 1 := by rw [← hh1]; exact Heap.size_push ..
  have new : h1.get? s.heap.objs.size = some { cls := .type "set", dict := none, data := .set #[] 0 (.fresh 0 0 led) } := by rw [← hh1]; exact Heap.get?_push_size _ rfl
  have ty : ({ s with heap := h1 } : Shared).TypeIs (.ref s.heap.objs.size) "set" := ⟨_, new, rfl⟩
  refine ⟨ty, codeAny_call_builtin PySem.F.called_set.init.plain PySem.F.entry_set_init (check_set_init_1 ty ?_)⟩
  have el : its.length = zs.length := strs_len hz
  obtain ⟨⟨c, d, dt, sl⟩, ho, rfl, n, rfl⟩ := hl
  have ho1 := kp _ _ ho
  have lt : @LT.lt Nat _ l s.heap.objs.size := Heap.lt_size ho
  have il : h1.IsList l its.toArray := ⟨_, ho1, rfl, n, rfl⟩
  have n1 := PySem.F.sub_list_set
  have n2 := PySem.F.sub_list_frozenset
  have n3 : (Value.type "list" == Value.type "dict") = false := by decide
  unfold Builtin.«set.__init__» noKeywords Builtin.Frozenset.updateFrom
  generalize pi : pyIter = it
  wp_walk
  subst pi
  apply wpAny_pyIter_list il
  apply wpAny_bind; apply wpAny_runValue
  have W := (Walks.list (prog := prog) (w := w) (A := A.in1.in1.in1) (by simpa using hh) h1.objs.size l (by rw [sz]; exact Nat.ne_of_lt (Nat.lt_succ_of_lt lt)) its.toArray).toS
  have e0 : its.toArray.size = zs.length := by rw [List.size_toArray]; exact el
  rw [e0] at W
  refine texts_in (zs := zs) W ?_ (fun i v p => ?_) small zs.length 0 _ (Nat.zero_add _) ⟨⟨_, Heap.get?_push_size _ rfl, rfl, rfl⟩, il.push _⟩ ?_ fun t m x => ?_
  · rw [sz]
    intro q
    rcases List.mem_cons.mp q with q | q
    · exact absurd q (Nat.ne_of_lt (Nat.lt_succ_self _))
    · exact absurd (List.mem_singleton.mp q) (Nat.ne_of_gt lt)
  · have p' : its[i]? = some v := by simpa using p
    exact strs_at hz p'
  · exact (setObjOf_fresh (knd := strKind prog w) led).setOf (Heap.get?_push_of_some _ new) (by decide)
  · obtain ⟨h2, g2, d2, t2, o2⟩ := t
    cases (show g2 = s.gens from m.gens)
    cases (show d2 = s.drawn from m.drawn)
    cases (show o2 = s.os from m.os)
    apply wpAny_pure
    refine wpAny_pure ⟨rfl, h h2 t2 x fun b o e => m.heap b o ?_ (Heap.get?_push_of_some _ (kp b o e))⟩
    have lb : @LT.lt Nat _ b s.heap.objs.size := Heap.lt_size e
    rw [sz]
    intro q
    rcases List.mem_cons.mp q with q | q
    · exact absurd q (Nat.ne_of_lt lb)
    · exact absurd (List.mem_singleton.mp q) (Nat.ne_of_lt (Nat.lt_succ_of_lt lb))
end
end L2

set_option Elab.async false
set_option linter.all false
set_option maxRecDepth 100000
set_option maxHeartbeats 4000000
namespace L2
open PySem PySem.Spec PyProof.Rows

theorem ObjOk.there {P : Program} {w : World} {H : Hp} {h : Heap} {a : Addr} {o : HO} (x : ObjOk P w H h a o) : ∃ u, h.get? a = some u := by
  cases o with
  | lst xs => obtain ⟨_, _, _, _, e⟩ := x; exact ⟨_, e⟩
  | tup xs => obtain ⟨_, _, _, o, e, _⟩ := x; exact ⟨_, e⟩
  | dK kvs => obtain ⟨_, _, _, _, o, _, _, e, _⟩ := x; exact ⟨_, e⟩
  | dT kvs => obtain ⟨_, _, _, _, o, _, _, e, _⟩ := x; exact ⟨_, e⟩
  | set S n => obtain ⟨o, _, _, _, e, _⟩ := x; exact ⟨_, e⟩
  | ins C dx fs => obtain ⟨_, _, _, e, _⟩ := x; exact ⟨_, e⟩
  | own y => exact x
  | xd fs => obtain ⟨_, ⟨_, _, _, e, _⟩, _⟩ := x; exact ⟨_, e⟩
  | rng lo hi => obtain ⟨_, _, _, e⟩ := x; exact ⟨_, e⟩
  | frz ob u => obtain ⟨e, _⟩ := x; exact ⟨_, e⟩
  | tbl ps => exact ⟨_, (show h.get? a = some _ from x)⟩
  | met f y => exact ⟨_, (show h.get? a = some _ from x)⟩
  | ext φ => obtain ⟨_, e, _⟩ := x; exact e


section
variable {CX : CXT} {P : Program} {w : World} {K : PySem.W.Frag} {mg : Str → Option Value} {base : Heap} {N : List Str} {qual : Str} {scope : Scope} {f : Addr} {cdv : Value} {A : Around} {outer : List Env} {s s1 s2 : Shared} {H H1 H2 : Hp} {E : XK}
  {pins : List (Addr × Obj)} {σ : St} {a : Addr} {cls a0 : Value} {B h' : Heap}
end

/-! ### calls that may raise, caught here -/
abbrev TX := St → Hp → VK → XK → Prop
section
variable {X : Cx} {k : Nat} {f C : Addr} {fd : FuncData} {ps : List Str} {sp : Sp} {dvs : List V} {ds : List Value} {x m : Str} {p pos apos : Pos} {e o : Expr} {es : List Expr} {ta : TE} {t : TA}
end
end L2

set_option Elab.async false
set_option linter.all false
set_option maxRecDepth 100000
set_option maxHeartbeats 4000000
namespace L2
open PySem PySem.Spec PyProof.Rows
/-! ### sorted(texts) -/
def leS (a b : Str) : Bool := decide (a.cps.toList ≤ b.cps.toList)
theorem leS_iff {a b : Str} : leS a b = true ↔ a.cps.toList ≤ b.cps.toList := by simp [leS]
theorem leS_trans {a b c : Str} (h : leS a b = true) (k : leS b c = true) : leS a c = true := leS_iff.mpr (List.le_trans (leS_iff.mp h) (leS_iff.mp k))
theorem leS_anti {a b : Str} (h : leS a b = true) (k : leS b a = true) : a = b := by
  have e := List.le_antisymm (leS_iff.mp h) (leS_iff.mp k)
  cases a; cases b
  simp only [Str.mk.injEq]
  exact Array.toList_inj.mp e
theorem leS_total (a b : Str) : (leS a b || leS b a) = true := by
  rcases List.le_total a.cps.toList b.cps.toList with h | h
  · simp [leS_iff.mpr h]
  · simp [leS_iff.mpr h]
def srt (zs : List Str) : List Str := zs.mergeSort leS
theorem srt_perm (zs : List Str) : (srt zs).Perm zs := List.mergeSort_perm _ _
theorem srt_pw (zs : List Str) : (srt zs).Pairwise fun a b => leS a b = true := List.pairwise_mergeSort (le := leS) (fun _ _ _ h k => leS_trans h k) leS_total zs
theorem rising_pw : ∀ (l : List Str) (p : Str), risingS p l = true → (p :: l).Pairwise fun a b => leS a b = true
  | [], p, _ => by simp
  | x :: r, p, h => by
    have h' : (!ltCps x.cps.toList p.cps.toList && risingS x r) = true := h
    rw [Bool.and_eq_true] at h'
    have ih := rising_pw r x h'.2
    have px : leS p x = true := by
      have := h'.1
      rw [ltCps_eq] at this
      refine leS_iff.mpr ?_
      intro q
      rw [decide_eq_true q] at this
      cases this
    refine List.pairwise_cons.mpr ⟨fun y hy => ?_, ih⟩
    rcases List.mem_cons.mp hy with rfl | hy
    · exact px
    · exact leS_trans px ((List.pairwise_cons.mp ih).1 y hy)
theorem sorted_pw : ∀ (l : List Str), sortedS l = true → l.Pairwise fun a b => leS a b = true
  | [], _ => .nil
  | x :: r, h => rising_pw r x h
theorem pw_uniq : ∀ {l m : List Str}, l.Perm m → (l.Pairwise fun a b => leS a b = true) → (m.Pairwise fun a b => leS a b = true) → l = m
  | [], m, p, _, _ => (List.nil_perm.mp p).symm
  | x :: l, [], p, _, _ => absurd p (by simp)
  | x :: l, y :: m, p, a, b => by
    have a' := List.pairwise_cons.mp a
    have b' := List.pairwise_cons.mp b
    have e : x = y := by
      rcases List.mem_cons.mp (p.mem_iff.mp List.mem_cons_self) with q | q
      · exact q
      rcases List.mem_cons.mp (p.mem_iff.mpr List.mem_cons_self) with q' | q'
      · exact q'.symm
      · exact leS_anti (a'.1 y q') (b'.1 x q)
    subst e
    rw [pw_uniq ((List.perm_cons _).mp p) a'.2 b'.2]
theorem srt_of {zs ss : List Str} (p : ss.Perm zs) (h : ss.Pairwise fun a b => leS a b = true) : ss = srt zs := pw_uniq (p.trans (srt_perm zs).symm) h (srt_pw zs)
theorem srt_len (zs : List Str) : (srt zs).length = zs.length := (srt_perm zs).length_eq
section
variable {X : Cx}
theorem call_sorted_txt : CallR X (.builtin "sorted") (fun xs H Q => ∃ (p : Addr) (zs : List Str), xs = [.ref p] ∧ SqL X.K H p (zs.map V.str) ∧ zs.length < 64 ∧ ∀ l, H l = none → Q (.ref l) (upd H l (.lst ((srt zs).map V.str)))) := by
  intro pins s σ H xs us Q I r h
  obtain ⟨p, zs, rfl, hq, few, q⟩ := h
  obtain ⟨u, rfl, rx⟩ := vals1 r
  cases rx
  obtain ⟨its, rv, pl, hz⟩ := I.list hq
  have el := strs_len (strs_of rv)
  refine sorted_strs pl.isList (strs_of rv) (by omega) fun out ss a1 a2 a3 => ?_
  have e := srt_of a2 (sorted_pw ss a3)
  subst e
  obtain ⟨n, hn⟩ := sortedAll_at s.heap its out
  have lb : ((srt zs).map V.str).length ≤ sizeLine := by
    rw [List.length_map, srt_len]
    exact Nat.le_trans (Nat.le_of_lt few) (by decide)
  refine ⟨.ref (s.heap.objs.size + 1), _, I.laid (t' := s.toks) (o := .lst ((srt zs).map V.str)) (fun b o e => sortedAll_old e) (Nat.le_succ _) ?_, rfl, q _ (I.hok.fresh (Nat.le_succ _))⟩
  exact ⟨lb, out.toList, n, of_strs a1, by rw [hn]⟩
end
/-! ### values alike, within one another -/
def Al (K : PySem.W.Frag) (H : Hp) : Nat → V → V → Prop
  | 0, x, y => flatV x = true ∧ x = y
  | n + 1, x, y => (flatV x = true ∧ x = y) ∨ ∃ p q xs ys, x = .ref p ∧ y = .ref q ∧ ((SqL K H p xs ∧ SqL K H q ys) ∨ (SqT K H p xs ∧ SqT K H q ys)) ∧ xs.length = ys.length ∧ ∀ (i : Nat) a b, xs[i]? = some a → ys[i]? = some b → Al K H n a b
/-- two lists, or two tuples, alike -/
def AlS (K : PySem.W.Frag) (H : Hp) (n : Nat) (x y : V) : Prop :=
  ∃ p q xs ys, x = .ref p ∧ y = .ref q ∧ ((SqL K H p xs ∧ SqL K H q ys) ∨ (SqT K H p xs ∧ SqT K H q ys)) ∧ xs.length = ys.length ∧ ∀ (i : Nat) a b, xs[i]? = some a → ys[i]? = some b → Al K H n a b
theorem AlS.al {K : PySem.W.Frag} {H : Hp} {n : Nat} {x y : V} (h : AlS K H n x y) : Al K H (n + 1) x y := .inr h
theorem Al.txt {K : PySem.W.Frag} {H : Hp} {n : Nat} {z : Str} : Al K H n (.str z) (.str z) := by
  cases n
  · exact ⟨rfl, rfl⟩
  · exact .inl ⟨rfl, rfl⟩
theorem eqV_self {x : V} (h : flatV x = true) : eqV x x = true := by
  cases x <;> first | (exact absurd h Bool.false_ne_true) | simp [eqV]
theorem all_range (n : Nat) : (List.range n).all (fun _ => true) = true := by simp
section
variable {X : Cx} {pins : List (Addr × Obj)} {σ : St} {H : Hp} {s : Shared}
theorem al_at (I : Inv X pins σ H s) : ∀ (n : Nat) (x y : V) (u v : Value) (A : Around), Al X.K H n x y → RelV x u → RelV y v → A.units + n < cLine → SeqAt.EqAt A s u v true := by
  intro n
  induction n with
  | zero =>
    rintro x y u v A ⟨f, rfl⟩ ru rv _
    have h := eqAt_V (A := A) (s := s) ru rv f f
    rw [eqV_self f] at h
    exact h
  | succ n ih =>
    rintro x y u v A h ru rv hu
    rcases h with ⟨f, rfl⟩ | ⟨p, q, xs, ys, rfl, rfl, h, el, k⟩
    · have h := eqAt_V (A := A) (s := s) ru rv f f
      rw [eqV_self f] at h
      exact h
    · cases ru
      cases rv
      by_cases hpq : p = q
      · subst hpq; exact SeqAt.EqAt.same _
      refine SeqAt.EqAt.of_refs hpq ?_
      have low : A.in1.units + n < cLine := by rw [units_in1]; omega
      have item : ∀ {is js : List Value}, Vals xs is → Vals ys js → ∀ j (h1 : j < is.toArray.size) (h2 : j < js.toArray.size), SeqAt.EqAt A.in1 s is.toArray[j] js.toArray[j] true := fun {is js} ri rj j h1 h2 => by
        have b1 : j < xs.length := by rw [ri.length]; simpa using h1
        have b2 : j < ys.length := by rw [rj.length]; simpa using h2
        obtain ⟨u', e1, r1⟩ := ri.get (List.getElem?_eq_getElem b1)
        obtain ⟨v', e2, r2⟩ := rj.get (List.getElem?_eq_getElem b2)
        have c1 : is.toArray[j] = u' := by
          rw [List.getElem_toArray]
          have := List.getElem?_eq_getElem (l := is) (i := j) (by simpa using h1)
          rw [this] at e1; exact Option.some.inj e1
        have c2 : js.toArray[j] = v' := by
          rw [List.getElem_toArray]
          have := List.getElem?_eq_getElem (l := js) (i := j) (by simpa using h2)
          rw [this] at e2; exact Option.some.inj e2
        rw [c1, c2]
        exact ih _ _ _ _ _ (k j _ _ (List.getElem?_eq_getElem b1) (List.getElem?_eq_getElem b2)) r1 r2 low
      rcases h with ⟨hp, hq⟩ | ⟨hp, hq⟩
      · obtain ⟨is, ri, pi, _⟩ := I.list hp
        obtain ⟨js, rj, pj, _⟩ := I.list hq
        have z := SeqAt.RcAt.lists (A := A) (e := fun _ => true) pi.isList pj.isList (by simp only [List.size_toArray]; rw [← ri.length, ← rj.length]; exact el) (by omega) (item ri rj)
        rw [all_range] at z
        exact z
      · obtain ⟨is, ri, pi, _⟩ := I.tuple hp
        obtain ⟨js, rj, pj, _⟩ := I.tuple hq
        have z := SeqAt.RcAt.tuples (A := A) (e := fun _ => true) pi pj (by omega) (item ri rj)
        have e : (is.toArray.size == js.toArray.size) = true := by simp only [List.size_toArray, beq_iff_eq]; rw [← ri.length, ← rj.length]; exact el
        rw [all_range, e] at z
        exact z
theorem als_items (I : Inv X pins σ H s) {n : Nat} {xs ys : List V} {A : Around} (low : A.in1.units + n < cLine) (k : ∀ (i : Nat) a b, xs[i]? = some a → ys[i]? = some b → Al X.K H n a b) {is js : List Value} (ri : Vals xs is) (rj : Vals ys js) :
    ∀ j (h1 : j < is.toArray.size) (h2 : j < js.toArray.size), SeqAt.EqAt A.in1 s is.toArray[j] js.toArray[j] true := fun j h1 h2 => by
  have b1 : j < xs.length := by rw [ri.length]; simpa using h1
  have b2 : j < ys.length := by rw [rj.length]; simpa using h2
  obtain ⟨u', e1, r1⟩ := ri.get (List.getElem?_eq_getElem b1)
  obtain ⟨v', e2, r2⟩ := rj.get (List.getElem?_eq_getElem b2)
  have c1 : is.toArray[j] = u' := by
    rw [List.getElem_toArray]
    have := List.getElem?_eq_getElem (l := is) (i := j) (by simpa using h1)
    rw [this] at e1; exact Option.some.inj e1
  have c2 : js.toArray[j] = v' := by
    rw [List.getElem_toArray]
    have := List.getElem?_eq_getElem (l := js) (i := j) (by simpa using h2)
    rw [this] at e2; exact Option.some.inj e2
  rw [c1, c2]
  exact al_at I n _ _ _ _ _ (k j _ _ (List.getElem?_eq_getElem b1) (List.getElem?_eq_getElem b2)) r1 r2 low
end
section
variable {X : Cx}
/-- a == b, a and b alike -/
theorem op_eq_al (n : Nat) (hu : X.A.units + n + 1 < cLine) : OpR X (compareOp .Eq) (fun x y H Q => AlS X.K H n x y ∧ Q (.bl true) H) := by
  intro pins s σ H x y v u Q I rx ry h
  obtain ⟨⟨p, q, xs, ys, rfl, rfl, h, el, k⟩, fin⟩ := h
  cases rx
  cases ry
  have low : X.A.in1.units + n < cLine := by rw [units_in1]; omega
  rcases h with ⟨hp, hq⟩ | ⟨hp, hq⟩
  · obtain ⟨is, ri, pi, _⟩ := I.list hp
    obtain ⟨js, rj, pj, _⟩ := I.list hq
    refine SeqAt.eq_listAt (e := fun _ => true) pi.isList pj.isList (by simp only [List.size_toArray]; rw [← ri.length, ← rj.length]; exact el) (by omega) (als_items I low k ri rj) ?_
    exact fin_bl I fin (all_range _).symm
  · obtain ⟨is, ri, pi, _⟩ := I.tuple hp
    obtain ⟨js, rj, pj, _⟩ := I.tuple hq
    refine SeqAt.eq_tupleAt (e := fun _ => true) pi pj (by omega) (als_items I low k ri rj) ?_
    have e : (is.toArray.size == js.toArray.size) = true := by simp only [List.size_toArray, beq_iff_eq]; rw [← ri.length, ← rj.length]; exact el
    refine fin_bl I fin ?_
    rw [all_range, e]; rfl
/-- a != b, a and b alike -/
theorem op_ne_al (n : Nat) (hu : X.A.units + n + 1 < cLine) : OpR X (compareOp .NotEq) (fun x y H Q => AlS X.K H n x y ∧ Q (.bl false) H) := by
  intro pins s σ H x y v u Q I rx ry h
  obtain ⟨⟨p, q, xs, ys, rfl, rfl, h, el, k⟩, fin⟩ := h
  cases rx
  cases ry
  have low : X.A.in1.units + n < cLine := by rw [units_in1]; omega
  rcases h with ⟨hp, hq⟩ | ⟨hp, hq⟩
  · obtain ⟨is, ri, pi, _⟩ := I.list hp
    obtain ⟨js, rj, pj, _⟩ := I.list hq
    refine PySem.EqBoolInt.of_rcne (SeqAt.RcNeAt.lists (e := fun _ => true) pi.isList pj.isList (by simp only [List.size_toArray]; rw [← ri.length, ← rj.length]; exact el) (by omega) (als_items I low k ri rj)) ?_
    refine fin_bl I fin ?_
    rw [all_range]; rfl
  · obtain ⟨is, ri, pi, _⟩ := I.tuple hp
    obtain ⟨js, rj, pj, _⟩ := I.tuple hq
    refine PySem.EqBoolInt.of_rcne (SeqAt.RcNeAt.tuples (e := fun _ => true) pi pj (by omega) (als_items I low k ri rj)) ?_
    have e : (is.toArray.size == js.toArray.size) = true := by simp only [List.size_toArray, beq_iff_eq]; rw [← ri.length, ← rj.length]; exact el
    refine fin_bl I fin ?_
    rw [all_range, e]; rfl
/-! ### len(set(texts)) -/
def tLenSet (K : PySem.W.Frag) (te : TE) : TE := fun σ H Q => te σ H fun x H1 => ∃ (p : Addr) (zs : List Str), x = .ref p ∧ SqL K H1 p (zs.map V.str) ∧ zs.length + 1 < scanBound ∧ Q (.int (dist zs).length) H1
theorem pe_lenset {e : Expr} {te : TE} {xl xs : Str} {p1 p2 pos1 pos2 : Pos} (hc : X.calm = true) (he : PE X e te) (gl : Gl X xl) (ml : X.mg xl = none) (vl : bootBuiltins xl = some (.builtin "len")) (gs : Gl X xs) (ms : X.mg xs = none) (vs : bootBuiltins xs = some (.type "set"))
    (hn1 : xl ≠ "__name__" := by decide) (hd1 : (xl == ("__debug__" : Str)) = false := by decide) (hn2 : xs ≠ "__name__" := by decide) (hd2 : (xs == ("__debug__" : Str)) = false := by decide)
    (hs : starEach [e] X.env = [(false, eval e X.env)] := by rfl) : PE X (.Call (.Name xl p1) [.Call (.Name xs p2) [e] [] pos2] [] pos1) (tLenSet X.K te) := by
  intro pins s σ H Q I h
  refine wpAny_Call_Name_kw (ld_blt I gl ml vl ?_ hn1 hd1)
  refine PyProof.Rows.callWith_builtin1 ?_ rfl rfl
  show wpAny _ _ (spliced [(false, eval (.Call (.Name xs p2) [e] [] pos2) X.env)]) _ _ s
  refine Calls.spliced_cons ?_
  refine wpAny_Call_Name_kw (ld_blt I gs ms vs ?_ hn2 hd2)
  refine PyProof.Rows.callWith_type1 (thn (pa_cons he pa_nil hs pos2 pins s σ H (fun vs H1 => ∃ x, vs = [x] ∧ ∃ (p : Addr) (zs : List Str), x = .ref p ∧ SqL X.K H1 p (zs.map V.str) ∧ zs.length + 1 < scanBound ∧ Q (.int (dist zs).length) H1) I ?_) fun us s1 h1 => ?_) hs rfl
  · have mono := h
    refine ?_
    show te σ H _
    exact (show te σ H (fun x H1 => ∃ x', [x] = [x'] ∧ ∃ (p : Addr) (zs : List Str), x' = .ref p ∧ SqL X.K H1 p (zs.map V.str) ∧ zs.length + 1 < scanBound ∧ Q (.int (dist zs).length) H1) from by
      have e : (fun (x : V) (H1 : Hp) => ∃ x', [x] = [x'] ∧ ∃ (p : Addr) (zs : List Str), x' = .ref p ∧ SqL X.K H1 p (zs.map V.str) ∧ zs.length + 1 < scanBound ∧ Q (.int (dist zs).length) H1) = fun x H1 => ∃ (p : Addr) (zs : List Str), x = .ref p ∧ SqL X.K H1 p (zs.map V.str) ∧ zs.length + 1 < scanBound ∧ Q (.int (dist zs).length) H1 := by
        funext x H1
        refine propext ⟨fun ⟨x', e, r⟩ => ?_, fun r => ⟨x, rfl, r⟩⟩
        cases e
        exact r
      rw [e]
      exact h)
  · obtain ⟨vs', H1, I1, r1, x, rfl, p, zs, rfl, hq, small, q⟩ := h1
    obtain ⟨u, rfl, ru⟩ := vals1 r1
    cases ru
    obtain ⟨its, rv, pl, _⟩ := I1.list hq
    refine set_texts (I1.ok.hd hc) pl.isList (strs_of rv) small fun h' tk T kp => ?_
    refine Calls.spliced_nil ?_
    obtain ⟨o, es, ep, t, ho, hex, hd, _, _, hb, hf, hN⟩ := T
    have I2 : Inv X pins σ H1 { s1 with heap := h', toks := tk } := I1.kept (t' := tk) kp
    have fit : (es.size : Int) < 2 ^ 63 := by
      have : es.size < scanBound := hb
      have z : scanBound ≤ 4096 := by decide
      have : (es.size : Int) < 4096 := by omega
      exact Int.lt_of_lt_of_le this (by decide)
    rw [← hN] at q
    exact call_len_set ho hex hd hf fit ⟨.int es.size, H1, I2.tok _, ⟨_, rfl⟩, q⟩
end
end L2

set_option Elab.async false
set_option linter.all false
set_option maxRecDepth 100000
set_option maxHeartbeats 4000000
namespace L2
open PySem PySem.Spec PyProof.Rows
/-! ### sorted of a dict whose keys are texts -/
section
variable {prog : Program} {w : World} {A : Around} {E : Value → Shared → Prop} {s : Shared}
/-- the tree of list.sort behind a list that was just laid -/
theorem sorts_new {h : Heap} {tk : Nat} {us : List Value} {zs : List Str} {Q : Value → Shared → Prop} (hz : StrsAre us zs) (few : us.length < 64)
    (q : ∀ (out : List Value) (n : Nat) (h2 : Heap), StrsAre out (srt zs) → (∀ b o, h.get? b = some o → h2.get? b = some o) → h2.get? h.objs.size = some { cls := .type "list", data := .seq out.toArray n } → Q (.ref h.objs.size) { s with heap := h2, toks := tk }) :
    wpAny (model prog w) A (call (.builtin "list.sort") [.ref h.objs.size]) (fun _ s' => Q (.ref h.objs.size) s') E { s with heap := h.push { cls := .type "list", data := .seq us.toArray }, toks := tk } := by
  have at0 : (h.push { cls := .type "list", data := .seq us.toArray }).get? h.objs.size = some (seqObj "list" us.toArray 0) := Heap.get?_push_size _ rfl
  refine wpAny_call_entry PySem.F.slot_list_sort ⟨_, at0, rfl⟩ PySem.F.entry_list_sort ?_ (args_list_sort _)
  refine list_sort_treeK strKind_oneLt at0 hz.keysOf (fun a b r e => keyKind_strs (by rw [← e]; exact hz)) few fun st p1 p2 => ⟨_, rfl, ?_⟩
  obtain ⟨ss, c1, c2, c3⟩ := sorted_out_str hz p1 p2
  have e := srt_of c2 (sorted_pw ss c3)
  subst e
  obtain ⟨n, hn⟩ := sortedHeap_at (out := (arrOf st).map (·.2)) at0
  refine q _ n _ c1 (fun b o eb => ?_) (by rw [hn])
  have lt : b < h.objs.size := Heap.lt_size eb
  rw [sortedHeap_old (Nat.ne_of_lt lt) (by rw [Heap.size_push]; exact Nat.lt_succ_of_lt lt)]
  exact Heap.get?_push_of_some _ eb
end
/-- a new object at a place where nothing stood -/
theorem Inv.laidN {X : Cx} {pins : List (Addr × Obj)} {σ : St} {H : Hp} {s : Shared} {h' : Heap} {a : Addr} {o : HO} {t' : Nat} (I : Inv X pins σ H s) (k : ∀ b u, s.heap.get? b = some u → h'.get? b = some u) (hp : s.heap.get? a = none) (hn : H a = none) (new : ObjOk X.prog X.w (upd H a o) h' a o) :
    Inv X pins σ (upd H a o) { s with heap := h', toks := t' } := by
  refine I.un ⟨fun b u q _ _ _ => k b u q, fun b u q _ _ _ => ⟨u.slots, k b u q⟩, fun b u q n _ => ?_, fun b u q _ => ⟨u, k b u q⟩, fun b xs q => ?_, fun b u xs q => ?_, fun b ps q => ⟨#[], ?_⟩⟩ fun b u e => ?_
  · rw [upd_ne (fun z => by rw [z, hp] at q; cases q)]; exact n
  · rw [upd_ne (ne_of_none q hn)]; exact q
  · rw [upd_ne (ne_of_none q hn)]; exact q
  · rw [upd_ne (ne_of_none q hn), q]; simp
  · by_cases hb : b = a
    · subst hb; rw [upd_same] at e; cases e; exact new
    · rw [upd_ne hb] at e
      refine (I.hok b u e).stay (fun c v _ q => k c v q) (fun c q => ?_) fun c xs q => ?_
      · rw [upd_ne (ne_of_none q hn)]; exact q
      · rw [upd_ne (ne_of_none q hn)]; exact q
section
variable {X : Cx}
end
end L2

set_option Elab.async false
set_option linter.all false
set_option maxRecDepth 100000
set_option maxHeartbeats 4000000
namespace L2
open PySem PySem.Spec PyProof.Rows
section
variable {X : Cx}
/-- a != b, lists of other lengths -/
def rNeLen (K : PySem.W.Frag) : R2 := fun x y H Q => ∃ p q xs ys, x = .ref p ∧ y = .ref q ∧ SqL K H p xs ∧ SqL K H q ys ∧ xs.length ≠ ys.length ∧ Q (.bl true) H
theorem op_ne_len (hu : X.A.units + 1 < cLine) : OpR X (compareOp .NotEq) (rNeLen X.K) := by
  intro pins s σ H x y v u Q I rx ry h
  obtain ⟨p, q, xs, ys, rfl, rfl, hp, hq, ne, fin⟩ := h
  cases rx
  cases ry
  obtain ⟨is, ri, pi, _⟩ := I.list hp
  obtain ⟨js, rj, pj, _⟩ := I.list hq
  refine PySem.EqBoolInt.of_rcne (SeqAt.RcNeAt.lists_lengths pi.isList pj.isList ?_ (by omega)) (fin_bl I fin rfl)
  simp only [List.size_toArray, bne_iff_ne]
  rw [← ri.length, ← rj.length]
  exact ne
end
end L2

set_option Elab.async false
set_option linter.all false
set_option maxRecDepth 100000
set_option maxHeartbeats 4000000
namespace L2
open PySem PySem.Spec PyProof.Rows
/-! ### ==, != of two lists, or two tuples, of flat items -/
def eqVs : List V → List V → Bool
  | [], [] => true
  | x :: xs, y :: ys => eqV x y && eqVs xs ys
  | _, _ => false
theorem eqVs_len : ∀ {xs ys : List V}, xs.length ≠ ys.length → eqVs xs ys = false
  | [], [], h => absurd rfl h
  | [], _ :: _, _ => rfl
  | _ :: _, [], _ => rfl
  | x :: xs, y :: ys, h => by
    unfold eqVs
    rw [eqVs_len (by simpa using h), Bool.and_false]
theorem eqVs_all : ∀ {xs ys : List V}, xs.length = ys.length → eqVs xs ys = (List.range xs.length).all fun j => eqV (xs.getD j .non) (ys.getD j .non)
  | [], [], _ => rfl
  | [], _ :: _, h => by simp at h
  | _ :: _, [], h => by simp at h
  | x :: xs, y :: ys, h => by
    unfold eqVs
    rw [eqVs_all (by simpa using h), List.length_cons, List.range_succ_eq_map, List.all_cons, List.all_map]
    rfl
theorem eqVs_str : ∀ (xs ys : List Str), eqVs (xs.map V.str) (ys.map V.str) = decide (xs = ys)
  | [], [] => rfl
  | [], _ :: _ => rfl
  | _ :: _, [] => rfl
  | x :: xs, y :: ys => by
    rw [List.map_cons, List.map_cons]
    unfold eqVs
    rw [eqVs_str xs ys]
    by_cases h : x = y
    · subst h
      simp [eqV]
    · simp [eqV, h]
theorem eqVs_int : ∀ (xs ys : List Int), eqVs (xs.map V.int) (ys.map V.int) = decide (xs = ys)
  | [], [] => rfl
  | [], _ :: _ => rfl
  | _ :: _, [] => rfl
  | x :: xs, y :: ys => by
    rw [List.map_cons, List.map_cons]
    unfold eqVs
    rw [eqVs_int xs ys]
    by_cases h : x = y
    · subst h
      simp [eqV]
    · simp [eqV, h]
section
variable {X : Cx} {pins : List (Addr × Obj)} {σ : St} {H : Hp} {s : Shared}
theorem eq_items {xs ys : List V} {A : Around} (fx : xs.all flatV = true) (fy : ys.all flatV = true) {is js : List Value} (ri : Vals xs is) (rj : Vals ys js) :
    ∀ j (h1 : j < is.toArray.size) (h2 : j < js.toArray.size), SeqAt.EqAt A s is.toArray[j] js.toArray[j] (eqV (xs.getD j .non) (ys.getD j .non)) := fun j h1 h2 => by
  have b1 : j < xs.length := by rw [ri.length]; simpa using h1
  have b2 : j < ys.length := by rw [rj.length]; simpa using h2
  obtain ⟨u', e1, r1⟩ := ri.get (List.getElem?_eq_getElem b1)
  obtain ⟨v', e2, r2⟩ := rj.get (List.getElem?_eq_getElem b2)
  have c1 : is.toArray[j] = u' := by
    rw [List.getElem_toArray]
    have := List.getElem?_eq_getElem (l := is) (i := j) (by simpa using h1)
    rw [this] at e1; exact Option.some.inj e1
  have c2 : js.toArray[j] = v' := by
    rw [List.getElem_toArray]
    have := List.getElem?_eq_getElem (l := js) (i := j) (by simpa using h2)
    rw [this] at e2; exact Option.some.inj e2
  have d1 : xs.getD j .non = xs[j] := by simp [List.getD, List.getElem?_eq_getElem b1]
  have d2 : ys.getD j .non = ys[j] := by simp [List.getD, List.getElem?_eq_getElem b2]
  rw [c1, c2, d1, d2]
  exact eqAt_V r1 r2 (List.all_eq_true.mp fx _ (List.getElem_mem b1)) (List.all_eq_true.mp fy _ (List.getElem_mem b2))
end
section
variable {X : Cx}
/-- two lists, or two tuples, of flat items -/
def rEqF (K : PySem.W.Frag) (neg : Bool) : R2 := fun x y H Q => ∃ p q xs ys, x = .ref p ∧ y = .ref q ∧ ((SqL K H p xs ∧ SqL K H q ys) ∨ (SqT K H p xs ∧ SqT K H q ys)) ∧ xs.all flatV = true ∧ ys.all flatV = true ∧ Q (.bl (if neg then !eqVs xs ys else eqVs xs ys)) H
theorem min_eq' {a b : Nat} (h : a = b) : min a b = a := by omega
theorem op_eq_flat (hu : X.A.units + 1 < cLine) : OpR X (compareOp .Eq) (rEqF X.K false) := by
  intro pins s σ H x y v u Q I rx ry h
  obtain ⟨p, q, xs, ys, rfl, rfl, h, fx, fy, fin⟩ := h
  cases rx
  cases ry
  rcases h with ⟨hp, hq⟩ | ⟨hp, hq⟩
  · obtain ⟨is, ri, pi, _⟩ := I.list hp
    obtain ⟨js, rj, pj, _⟩ := I.list hq
    by_cases el : xs.length = ys.length
    · refine SeqAt.eq_listAt pi.isList pj.isList (by simp only [List.size_toArray]; rw [← ri.length, ← rj.length]; exact el) (by omega) (eq_items fx fy ri rj) ?_
      refine fin_bl I fin ?_
      rw [List.size_toArray, ← ri.length]
      exact eqVs_all el
    · refine SeqAt.eq_list_lengthsAt pi.isList pj.isList ?_ (by omega) (fin_bl I fin ?_)
      · simp only [List.size_toArray, bne_iff_ne]
        rw [← ri.length, ← rj.length]
        exact el
      · exact eqVs_len el
  · obtain ⟨is, ri, pi, _⟩ := I.tuple hp
    obtain ⟨js, rj, pj, _⟩ := I.tuple hq
    refine SeqAt.eq_tupleAt pi pj (by omega) (eq_items fx fy ri rj) ?_
    refine fin_bl I fin ?_
    simp only [List.size_toArray]
    rw [← ri.length, ← rj.length]
    by_cases el : xs.length = ys.length
    · rw [min_eq' el, ← eqVs_all el]
      simp [el]
    · have : (xs.length == ys.length) = false := by simpa using el
      rw [this, Bool.and_false]
      exact eqVs_len el
theorem op_ne_flat (hu : X.A.units + 1 < cLine) : OpR X (compareOp .NotEq) (rEqF X.K true) := by
  intro pins s σ H x y v u Q I rx ry h
  obtain ⟨p, q, xs, ys, rfl, rfl, h, fx, fy, fin⟩ := h
  cases rx
  cases ry
  rcases h with ⟨hp, hq⟩ | ⟨hp, hq⟩
  · obtain ⟨is, ri, pi, _⟩ := I.list hp
    obtain ⟨js, rj, pj, _⟩ := I.list hq
    by_cases el : xs.length = ys.length
    · refine PySem.EqBoolInt.of_rcne (SeqAt.RcNeAt.lists pi.isList pj.isList (by simp only [List.size_toArray]; rw [← ri.length, ← rj.length]; exact el) (by omega) (eq_items fx fy ri rj)) ?_
      refine fin_bl I fin ?_
      rw [List.size_toArray, ← ri.length, ← eqVs_all el]
      rfl
    · refine PySem.EqBoolInt.of_rcne (SeqAt.RcNeAt.lists_lengths pi.isList pj.isList ?_ (by omega)) (fin_bl I fin ?_)
      · simp only [List.size_toArray, bne_iff_ne]
        rw [← ri.length, ← rj.length]
        exact el
      · rw [if_pos rfl, eqVs_len el]; rfl
  · obtain ⟨is, ri, pi, _⟩ := I.tuple hp
    obtain ⟨js, rj, pj, _⟩ := I.tuple hq
    refine PySem.EqBoolInt.of_rcne (SeqAt.RcNeAt.tuples pi pj (by omega) (eq_items fx fy ri rj)) ?_
    refine fin_bl I fin ?_
    simp only [List.size_toArray]
    rw [← ri.length, ← rj.length]
    by_cases el : xs.length = ys.length
    · rw [min_eq' el, ← eqVs_all el]
      simp [el]
    · have : (xs.length == ys.length) = false := by simpa using el
      rw [this, Bool.and_false, if_pos trivial, eqVs_len el]
/-- a list, or a tuple, of anything against one that is empty, or of another length -/
def rEqLen (K : PySem.W.Frag) : R2 := fun x y H Q => ∃ p q xs ys, x = .ref p ∧ y = .ref q ∧ SqL K H p xs ∧ SqL K H q ys ∧ xs.length ≠ ys.length ∧ Q (.bl false) H
theorem op_eq_len (hu : X.A.units + 1 < cLine) : OpR X (compareOp .Eq) (rEqLen X.K) := by
  intro pins s σ H x y v u Q I rx ry h
  obtain ⟨p, q, xs, ys, rfl, rfl, hp, hq, ne, fin⟩ := h
  cases rx
  cases ry
  obtain ⟨is, ri, pi, _⟩ := I.list hp
  obtain ⟨js, rj, pj, _⟩ := I.list hq
  refine SeqAt.eq_list_lengthsAt pi.isList pj.isList ?_ (by omega) (fin_bl I fin rfl)
  simp only [List.size_toArray, bne_iff_ne]
  rw [← ri.length, ← rj.length]
  exact ne
/-- xs == [] -/
def rEqNil (K : PySem.W.Frag) (neg : Bool) : R2 := fun x y H Q => ∃ p q xs, x = .ref p ∧ y = .ref q ∧ SqL K H p xs ∧ SqL K H q [] ∧ Q (.bl (if neg then !decide (xs = []) else decide (xs = []))) H
theorem op_eq_nil (hu : X.A.units + 1 < cLine) : OpR X (compareOp .Eq) (rEqNil X.K false) := by
  intro pins s σ H x y v u Q I rx ry h
  obtain ⟨p, q, xs, rfl, rfl, hp, hq, fin⟩ := h
  cases xs with
  | nil => exact op_eq_flat hu pins s σ H _ _ v u Q I rx ry ⟨p, q, [], [], rfl, rfl, .inl ⟨hp, hq⟩, rfl, rfl, fin⟩
  | cons z zs => exact op_eq_len hu pins s σ H _ _ v u Q I rx ry ⟨p, q, _, _, rfl, rfl, hp, hq, by simp, fin⟩
theorem op_ne_nil (hu : X.A.units + 1 < cLine) : OpR X (compareOp .NotEq) (rEqNil X.K true) := by
  intro pins s σ H x y v u Q I rx ry h
  obtain ⟨p, q, xs, rfl, rfl, hp, hq, fin⟩ := h
  cases xs with
  | nil => exact op_ne_flat hu pins s σ H _ _ v u Q I rx ry ⟨p, q, [], [], rfl, rfl, .inl ⟨hp, hq⟩, rfl, rfl, fin⟩
  | cons z zs => exact op_ne_len hu pins s σ H _ _ v u Q I rx ry ⟨p, q, _, _, rfl, rfl, hp, hq, by simp, fin⟩
/-! ### a tuple of texts in a list of such -/
open Classical in
end
end L2

set_option Elab.async false
set_option linter.all false
set_option maxRecDepth 100000
set_option maxHeartbeats 4000000
namespace L2
open PySem PySem.Spec PyProof.Rows
/-! ### dict comprehensions -/
/-- a block of one clause that makes a dict -/
structure DBlk where
  key : Expr
  val : Expr
  tgt : Expr
  src : Expr
  cs : List Expr
  sc : Scope
  pos : Pos
namespace DBlk
variable (B : DBlk)
section
variable (prog : Program) (w : World) (A : Around) (env : Env) (it : Value) (D : Addr)
end
end DBlk
section
variable {X : Cx} {own : List Str} {fr : List Nat} {sc : Scope} {tg iter kx vx : Expr} {ifs : List Expr} {pos : Pos} {wi : TI} {g : TG} {tt : TT} {tk te : TE}
end
end L2
namespace L2
open PySem PySem.Spec PyProof.Rows
/-! ### a dict of texts, each with a list -/
end L2

set_option Elab.async false
set_option linter.all false
set_option maxRecDepth 100000
set_option maxHeartbeats 4000000
namespace L2
open PySem PySem.Spec PyProof.Rows
/-! ### dict(list of pairs) -/
section
variable {prog : Program} {w : World} {A : Around} {E : Value → Shared → Prop} {s : Shared}
variable {K : Type} [DecidableEq K] {knd : KeyKind prog w K}
end
end L2
namespace L2
open PySem PySem.Spec PyProof.Rows
end L2

set_option Elab.async false
set_option linter.all false
set_option maxRecDepth 100000
set_option maxHeartbeats 4000000
namespace L2
open PySem PySem.Spec PyProof.Rows
/-! ### try .. except C as n -/
section
variable {X : Cx} {pins : List (Addr × Obj)} {σ : St} {H1 H2 : Hp} {s1 s2 : Shared} {a : Addr} {cls a0 : Value} {B h' : Heap}
end

section
variable {X : Cx} {e : Expr} {tx : TX} {ts : TS} {x n : Str} {c : Value} {i : Nat} {b₀ : Stmt} {suite : List Stmt} {pos pos' np hpos : Pos}
end
end L2

set_option Elab.async false
set_option linter.all false
set_option maxRecDepth 100000
set_option maxHeartbeats 4000000
namespace L2
open PySem PySem.Spec PyProof.Rows
/-! ### isinstance of a caught exception -/
section
variable {prog : Program} {w : World} {A : Around} {E : Value → Shared → Prop} {h : Heap} {g : Array GenState} {d : Drawn} {t : Nat} {os : OsState} {K : PySem.W.Frag} {a C : Addr} {o : Obj} {vs : Array Value}
end
end L2
namespace L2
open PySem PySem.Spec PyProof.Rows
section
variable {X : Cx}
end
end L2

set_option Elab.async false
set_option linter.all false
set_option maxRecDepth 100000
set_option maxHeartbeats 4000000
namespace L2
open PySem PySem.Spec PyProof.Rows
section
variable {X : Cx}
end
end L2
namespace K34
open PySem PySem.Spec PyProof.Rows L2
def top (i : Nat) : Stmt := PySem.Challenge.pw_cutmeet_k34_whole_told_steps_lead_there.main.body.getD i (.Pass ⟨0, 0, 0, 0⟩)
abbrev sName : Stmt := top 8
abbrev sChkP : Stmt := top 12
abbrev sAmong : Stmt := top 13
abbrev sTie : Stmt := top 14
abbrev sChkT : Stmt := top 15
abbrev sInit : Stmt := inClass (top 16) 0
abbrev sPlaces : Stmt := inClass (top 16) 1
abbrev sTies : Stmt := inClass (top 16) 4
abbrev sLaw : Stmt := top 46
/-- a def of the text: its object, its binding, how its arguments bind -/
structure Df (K : PySem.W.Frag) (mg : Str → Option Value) (x : Str) (st : Stmt) (ps : List Str) (f : Addr) (fd : FuncData) : Prop where
  fn : Fun K x x st f fd
  mgf : mg x = some (.ref f)
  b : Binds K fd ps []
/-- all tracked but p as it was -/
def But (p : Addr) (H H' : Hp) : Prop := ∀ b o, H b = some o → b ≠ p → H' b = some o
def Row (H : Hp) (p : Addr) : Prop := ∃ a b : Int, H p = some (.lst [.int a, .int b])
structure Glb (mg : Str → Option Value) : Prop where
  divmod : mg "divmod" = none
  len : mg "len" = none
  all : mg "all" = none
  isinst : mg "isinstance" = none
  str : mg "str" = none
  range : mg "range" = none
  max : mg "max" = none
  min : mg "min" = none
  bool : mg "bool" = none
  list : mg "list" = none
  int : mg "int" = none
  tuple : mg "tuple" = none
  set : mg "set" = none
  sorted : mg "sorted" = none
  longest : ∃ t, mg "LONGEST" = some (.int 8 t)
  places : ∃ t, mg "MOST_PLACES" = some (.int 12 t)
  ties : ∃ t, mg "MOST_TIES" = some (.int 30 t)
section
variable {P : Program} {w : World} {K : PySem.W.Frag} {mg : Str → Option Value} {base : Heap}
/-! ### names -/
def lo (c : Nat) : Bool := !decide ((⟨#[c]⟩ : Str).cps.toList < ("a" : Str).cps.toList)
def hi (c : Nat) : Bool := !decide (("z" : Str).cps.toList < (⟨#[c]⟩ : Str).cps.toList)
def nm (z : Str) : Bool := (decide (1 ≤ z.length) && decide (z.length ≤ 8)) && (z.cps.toList.map fun c => lo c && hi c).all id
/-- the loop over a text's signs, each a bool -/
theorem signs_loop {K : PySem.W.Frag} {z : Str} {H : Hp} {Q : VK} {te : TE} {σ : L2.St} {x : Str} (hz : z.cps.size ≤ sizeLine) (f : Nat → Bool)
    (he : ∀ (c : Nat) (H : Hp) (Q : VK), Q (.bl (f c)) H → te [some (V.str ⟨#[c]⟩)] H Q) (k : ∀ D, H D = none → Q (.ref D) (upd H D (.lst ((z.cps.toList.map f).map V.bl)))) :
    lcLoop [x] [] (gName 0) tYes te σ Q (Its z) H := by
  refine ⟨fun i m ys H2 => H2 = H ∧ i ≤ z.cps.size ∧ m = z.cps.size - i ∧ ys = ((z.cps.toList.take i).map f).map V.bl, ⟨z.cps.size, rfl, Nat.zero_le _, rfl, rfl⟩, ?_⟩
  rintro i m ys H2 ⟨rfl, hi, rfl, rfl⟩
  refine ⟨by simp; omega, ?_⟩
  by_cases h : i < z.cps.size
  · refine .inr ⟨h, fun x H3 hy => ?_⟩
    obtain ⟨rfl, c, hc, rfl⟩ := hy
    simp only [tYes, gName, if_true]
    refine he c _ _ ⟨z.cps.size - (i + 1), by omega, rfl, h, rfl, ?_⟩
    have e : (z.cps.toList.take (i + 1)) = z.cps.toList.take i ++ [c] := by
      rw [List.take_add_one]
      have : z.cps.toList[i]? = some c := by simpa using hc
      rw [this]; rfl
    rw [e]; simp
  · have e : i = z.cps.size := by omega
    subst e
    refine .inl ⟨rfl, fun D hD => ?_⟩
    have q := k D hD
    rw [List.take_of_length_le (by simp)]
    exact q
def spName : Sp := fun vs H Q _ => (∃ z : Str, vs = [.str z] ∧ z.length ≤ 1000 ∧ ∀ H', Same H H' → Q (.bl (nm z)) H') ∨ ∃ x t, vs = [x] ∧ TyOf K H x t ∧ PySem.W.kitOne K t (.type "str") = some false ∧ Q (.bl false) H
theorem scN : FnScope ["thing"] ["thing"] (defScope sName) := ⟨rfl, rfl, rfl, by decide +kernel, rfl, by decide +kernel, by decide +kernel⟩
theorem ok_name {f : Addr} {fd : FuncData} (F : Fun K "is_name" "is_name" sName f fd) (T : Glb mg) : FnOk P w K mg base CX0 1 f fd ["thing"] (spName (K := K)) := by
  refine F.ok scN (fun vs H Q E h => ?_) (fun cdv A outer s H vs Q E hr h => ?_)
  · rcases h with ⟨z, rfl, _⟩ | ⟨x, t, rfl, _⟩ <;> rfl
  · obtain ⟨t8, h8⟩ := T.longest
    refine ⟨_, pss_cons (ps_if (PW.pt (pw_or (pt_not (pt_val (pe_callB (call_isinst (T := "str")) (by rfl) T.isinst PyProof.Rows.boot_isinstance (pa_cons (pv 0) (pa_cons (pe_bltn (v := .ty "str") rfl T.str PyProof.Rows.boot_str rfl) pa_nil))) (fun _ => rfl)))
        (pw_or1 (pt_not (pt_chain op_le op_le pe_int (pe_callB call_len_str (by rfl) T.len PySem.boot_len (pa_cons (pv 0) pa_nil)) (pe_glob (v := .int 8) rfl h8 ⟨_, rfl⟩)))))) (pss_one (ps_ret pe_bl)) pss_nil)
      (pss_one (ps_ret (pe_callB (call_all rfl) (by rfl) T.all PyProof.Rows.boot_all (pa_cons (pe_lc ["sign"] [] rfl (compSc (osc := (defScope sName).names) (N := ["thing"]) rfl rfl (by decide +kernel)) (gk_name (by decide)) (pi_str (pv 0)) (fun _ _ _ => pg_name (i := 0) (show (["sign"] : List Str).Nodup by decide +kernel) rfl (Or.inl rfl)) (fun _ _ _ => pifs_nil)
        (fun _ _ _ => pe_chain op_le_str op_le_str pe_str (pv 0) pe_str)) pa_nil)))), ?_⟩
    rcases h with ⟨z, rfl, hz, k⟩ | ⟨x, t, rfl, ty, ki, k⟩
    · have hzs : z.length ≤ sizeLine := Nat.le_trans hz (by decide)
      refine ⟨_, rfl, _, _, true, rfl, .str z, rfl, _, rfl, ?_⟩
      refine iteF ?_
      refine ⟨_, rfl, z, rfl, hzs, _, _, rfl, rfl, _, rfl, ?_⟩
      refine ite2 (fun h1 => ?_) (fun h1 => ?_)
      · refine ⟨_, _, rfl, rfl, _, rfl, ?_⟩
        refine ite2 (fun h2 => ?_) (fun h2 => ?_)
        · have e : nm z = false := by
            have : ¬ z.length ≤ 8 := by simp at h2; omega
            simp [nm, this]
          exact e ▸ k H (Same.refl _)
        · have e : nm z = (z.cps.toList.map fun c => lo c && hi c).all id := by
            have a1 : 1 ≤ z.length := by simp at h1; omega
            have a2 : z.length ≤ 8 := by simp at h2; omega
            unfold nm
            rw [decide_eq_true a1, decide_eq_true a2]; rfl
          refine ⟨_, rfl, z, rfl, signs_loop (K := K) hzs (fun c => lo c && hi c) (fun c H Q q => ?_) (fun D hD => ⟨D, _, rfl, SqL.of upd_same, ?_⟩)⟩
          · refine ⟨_, rfl, _, _, rfl, rfl, _, rfl, ?_⟩
            have q' : Q (.bl (lo c && hi c)) H := q
            refine ite2 (fun h => ?_) (fun h => ?_)
            · refine ⟨_, _, rfl, rfl, ?_⟩
              have e1 : lo c = true := h
              rw [e1, Bool.true_and] at q'
              exact q'
            · have e1 : lo c = false := by simpa using (show ¬ lo c = true from h)
              rw [e1, Bool.false_and] at q'
              exact q'
          · exact e ▸ k _ fun c o q => by rw [upd_ne (ne_of_none q hD)]; exact q
      · refine ⟨_, rfl, ?_⟩
        have e : nm z = false := by
          have : ¬ 1 ≤ z.length := by simp at h1; omega
          simp [nm, this]
        exact iteT (e ▸ k H (Same.refl _))
    · refine ⟨_, rfl, _, _, false, rfl, ty, ki, _, rfl, ?_⟩
      exact iteT k
/-! ### a drawn text -/
theorem But.refl (p : Addr) (H : Hp) : But p H H := fun _ _ h _ => h
theorem But.trans {p : Addr} {H H1 H2 : Hp} (a : But p H H1) (b : But p H1 H2) : But p H H2 := fun c o h n => b c o (a c o h n) n
theorem letters26 : ("abcdefghijklmnopqrstuvwxyz" : Str).length = 26 := by decide +kernel
theorem lit_ix {z : Str} {d : Int} (h0 : 0 ≤ d) (h1 : d < (z.length : Int)) : ∃ c, atI z.cps.toList d = some c := by
  obtain ⟨n, rfl⟩ := Int.eq_ofNat_of_zero_le h0
  have hn : n < z.cps.toList.length := by
    have : n < z.length := by omega
    rw [Array.length_toList]; exact this
  exact ⟨z.cps.toList[n], atI_nat (by simp [hn])⟩
theorem same_upd {H : Hp} {a : Addr} {o : HO} (h : H a = none) : Same H (upd H a o) := fun b u e => by rw [upd_ne (ne_of_none e h)]; exact e
end
end K34

set_option Elab.async false
set_option linter.all false
set_option maxRecDepth 100000
set_option maxHeartbeats 4000000
namespace K34
open PySem PySem.Spec PyProof.Rows L2
section
variable {P : Program} {w : World} {K : PySem.W.Frag} {mg : Str → Option Value} {base : Heap}
/-! ### the places -/
structure GoodP (ns : List Str) : Prop where
  one : 1 ≤ ns.length
  few : ns.length ≤ 12
  nms : ∀ z ∈ ns, nm z = true
  nd : ns.Nodup
theorem nm_len {z : Str} (h : nm z = true) : z.length ≤ 8 := by
  unfold nm at h
  simp only [Bool.and_eq_true, decide_eq_true_eq] at h
  exact h.1.2
def spChkP : Sp := fun vs H Q _ => ∃ (a : Addr) (ns : List Str), vs = [.ref a] ∧ H a = some (.lst (ns.map V.str)) ∧ GoodP ns ∧ ∀ H', Same H H' → Q .non H'
theorem scCP : FnScope ["places"] ["places"] (defScope sChkP) := ⟨rfl, rfl, rfl, by decide +kernel, rfl, by decide +kernel, by decide +kernel⟩
theorem ok_chkP {f fN : Addr} {fd fdN : FuncData} (F : Fun K "check_places" "check_places" sChkP f fd) (DN : Df K mg "is_name" sName ["thing"] fN fdN) (T : Glb mg) : FnOk P w K mg base CX0 2 f fd ["places"] spChkP := by
  have GN : FnOk P w K mg base CX0 1 fN fdN ["thing"] (spName (K := K)) := ok_name DN.fn T
  refine F.ok scCP (fun vs H Q E h => ?_) (fun cdv A outer s H vs Q E hr h => ?_)
  · obtain ⟨a, ns, rfl, _⟩ := h
    rfl
  · obtain ⟨a, ns, rfl, ha, g, k⟩ := h
    obtain ⟨t12, h12⟩ := T.places
    refine ⟨_, pss_cons (ps_if (PW.pt (pw_or (pt_not (pt_val (pe_callB (call_isinst (T := "list")) (by rfl) T.isinst PyProof.Rows.boot_isinstance (pa_cons (pv 0) (pa_cons (pe_bltn (v := .ty "list") rfl T.list PyProof.Rows.boot_list rfl) pa_nil))) (fun _ => rfl)))
        (pw_or1 (pt_not (pt_chain op_le op_le pe_int (pe_callB call_len_seq (by rfl) T.len PySem.boot_len (pa_cons (pv 0) pa_nil)) (pe_glob (v := .int 12) rfl h12 ⟨_, rfl⟩)))))) (pss_one ps_never) pss_nil)
      (pss_cons (ps_if (pt_not (pt_val (pe_callB (call_all rfl) (by rfl) T.all PyProof.Rows.boot_all (pa_cons (pe_lc ["place"] [] rfl (compSc (osc := (defScope sChkP).names) (N := ["places"]) rfl rfl (by decide +kernel)) (gk_name (by decide)) (pi_list (pv 0)) (fun _ _ _ => pg_name (i := 0) (show (["place"] : List Str).Nodup by decide +kernel) rfl (Or.inl rfl)) (fun _ _ _ => pifs_nil)
          (fun _ _ _ => pe_call GN hr rfl DN.mgf DN.fn.kp DN.b .nil pass0 (pa_cons (pv 0) pa_nil))) pa_nil)) (fun _ => rfl))) (pss_one ps_never) pss_nil)
      (pss_one (ps_if (pt_cmpR op_lt (pe_lenset rfl (pv 0) rfl T.len PySem.boot_len rfl T.set PyProof.Rows.boot_set) (pe_callB call_len_seq (by rfl) T.len PySem.boot_len (pa_cons (pv 0) pa_nil)) (nomark _)) (pss_one ps_never) pss_nil))), ?_⟩
    refine ⟨_, rfl, _, _, true, rfl, .lst ha, rfl, _, rfl, ?_⟩
    refine iteF ?_
    have le : (ns.map V.str).length = ns.length := List.length_map ..
    refine ⟨_, rfl, a, _, rfl, .inl (SqL.of ha), _, _, rfl, rfl, _, rfl, ?_⟩
    rw [le]
    have g1 := g.one
    have g2 := g.few
    refine ite2 (fun _ => ?_) (fun z => absurd z (by simp; omega))
    refine ⟨_, _, rfl, rfl, _, rfl, ?_⟩
    refine ite2 (fun z => absurd z (by simp; omega)) (fun _ => ?_)
    refine ⟨_, rfl, a, rfl, ⟨_, SqL.of ha⟩, lc_list (K := K) (xs := ns.map V.str) (fun i ys H2 => Same H H2 ∧ ys = List.replicate i (V.bl true)) ⟨Same.refl _, rfl⟩ ?_ ?_ ?_ ?_⟩
    · rintro i ys H2 hi ⟨_, rfl⟩
      rw [List.length_replicate]
      rw [le] at hi
      exact Nat.le_trans hi (Nat.le_trans g.few (by decide))
    · rintro i ys H2 _ ⟨s2, _⟩
      exact SqL.of (s2 _ _ ha)
    · rintro i x ys H2 R hx ⟨s2, rfl⟩ kR
      rw [List.getElem?_map] at hx
      obtain ⟨z, ez, rfl⟩ := Option.map_eq_some_iff.mp hx
      have gz := g.nms z (List.mem_of_getElem? ez)
      simp only [tYes, gName, if_true]
      refine ⟨_, rfl, .inl ⟨z, rfl, Nat.le_trans (nm_len gz) (by decide), fun H3 s3 => ?_⟩⟩
      rw [gz]
      exact kR _ _ ⟨s2.trans s3, by rw [List.replicate_succ']⟩
    · rintro ys H2 ⟨s2, rfl⟩ D hD
      rw [le]
      have e : List.replicate ns.length (V.bl true) = (List.replicate ns.length true).map V.bl := by simp
      refine ⟨D, List.replicate ns.length true, rfl, (by rw [e]; exact SqL.of upd_same), _, rfl, ?_⟩
      have e2 : (List.replicate ns.length true).all id = true := by simp
      rw [e2]
      refine iteF ?_
      have s3 : Same H (upd H2 D (.lst (List.replicate ns.length (V.bl true)))) := s2.trans (same_upd hD)
      refine ⟨_, rfl, a, ns, rfl, SqL.of (s3 _ _ ha), (by have := g.few; show ns.length + 1 < scanBound; exact Nat.lt_of_le_of_lt (Nat.succ_le_succ this) (by decide)), _, rfl, a, _, rfl, .inl (SqL.of (s3 _ _ ha)), _, _, rfl, rfl, _, rfl, ?_⟩
      rw [dist_nd g.nd, le]
      refine ite2 (fun z => absurd z (by simp)) (fun _ => ?_)
      exact k _ s3
end
end K34

set_option Elab.async false
set_option linter.all false
set_option maxRecDepth 100000
set_option maxHeartbeats 4000000
namespace K34
open PySem PySem.Spec PyProof.Rows L2
theorem inV_str (z : Str) (ns : List Str) : inV (.str z) (ns.map V.str) = decide (z ∈ ns) := by
  unfold inV
  rw [List.any_map, Bool.eq_iff_iff, decide_eq_true_iff]
  simp only [List.any_eq_true, Function.comp, eqV, beq_iff_eq]
  exact ⟨fun ⟨y, h, e⟩ => e ▸ h, fun h => ⟨z, h, rfl⟩⟩
theorem flat_strs (ns : List Str) : (ns.map V.str).all flatV = true := by
  rw [List.all_map, List.all_eq_true]
  intro _ _
  rfl
section
variable {P : Program} {w : World} {K : PySem.W.Frag} {mg : Str → Option Value} {base : Heap}
def spAmong : Sp := fun vs H Q _ => (∃ (a : Addr) (ns : List Str) (z : Str), vs = [.ref a, .str z] ∧ SqL K H a (ns.map V.str) ∧ Q (.bl (decide (z ∈ ns))) H) ∨ ∃ (a : Addr) (x : V) (t : Value), vs = [.ref a, x] ∧ TyOf K H x t ∧ PySem.W.kitOne K t (.type "str") = some false ∧ Q (.bl false) H
theorem scAm : FnScope ["places", "thing"] ["places", "thing"] (defScope sAmong) := ⟨rfl, rfl, rfl, by decide +kernel, rfl, by decide +kernel, by decide +kernel⟩
theorem ok_among {f : Addr} {fd : FuncData} (F : Fun K "is_among" "is_among" sAmong f fd) (T : Glb mg) : FnOk P w K mg base CX0 1 f fd ["places", "thing"] (spAmong (K := K)) := by
  refine F.ok scAm (fun vs H Q E h => ?_) (fun cdv A outer s H vs Q E hr h => ?_)
  · rcases h with ⟨a, ns, z, rfl, _⟩ | ⟨a, x, t, rfl, _⟩ <;> rfl
  · refine ⟨_, pss_one (ps_ret (pe_and (pe_callB (call_isinst (T := "str")) (by rfl) T.isinst PyProof.Rows.boot_isinstance (pa_cons (pv 1) (pa_cons (pe_bltn (v := .ty "str") rfl T.str PyProof.Rows.boot_str rfl) pa_nil))) (pe_one (pe_cmpR op_in_seq (pv 1) (pv 0) rfl)))), ?_⟩
    rcases h with ⟨a, ns, z, rfl, ha, k⟩ | ⟨a, x, t, rfl, ty, e, k⟩
    · refine ⟨_, rfl, _, _, true, rfl, .str z, rfl, _, rfl, ?_⟩
      refine iteT ⟨_, rfl, _, rfl, a, _, rfl, .inl ha, rfl, flat_strs ns, ?_⟩
      rw [inV_str]
      exact k
    · refine ⟨_, rfl, x, t, false, rfl, ty, e, _, rfl, ?_⟩
      exact iteF k
def spTie : Sp := fun vs H Q _ => ∃ (a : Addr) (ns : List Str) (t : Addr) (x y : Str), vs = [.ref a, .ref t] ∧ SqL K H a (ns.map V.str) ∧ H t = some (.tup [.str x, .str y]) ∧ Q (.bl (decide (x ∈ ns) && decide (y ∈ ns))) H
theorem scTi : FnScope ["places", "thing"] ["places", "thing"] (defScope sTie) := ⟨rfl, rfl, rfl, by decide +kernel, rfl, by decide +kernel, by decide +kernel⟩
theorem ok_tie {f fA : Addr} {fd fdA : FuncData} (F : Fun K "is_tie" "is_tie" sTie f fd) (DA : Df K mg "is_among" sAmong ["places", "thing"] fA fdA) (T : Glb mg) : FnOk P w K mg base CX0 2 f fd ["places", "thing"] (spTie (K := K)) := by
  have GA : FnOk P w K mg base CX0 1 fA fdA ["places", "thing"] (spAmong (K := K)) := ok_among DA.fn T
  refine F.ok scTi (fun vs H Q E h => ?_) (fun cdv A outer s H vs Q E hr h => ?_)
  · obtain ⟨a, ns, t, x, y, rfl, _⟩ := h
    rfl
  · obtain ⟨a, ns, t, x, y, rfl, ha, ht, k⟩ := h
    refine ⟨_, pss_cons (ps_if (PW.pt (pw_or (pt_not (pt_val (pe_callB (call_isinst (T := "tuple")) (by rfl) T.isinst PyProof.Rows.boot_isinstance (pa_cons (pv 1) (pa_cons (pe_bltn (v := .ty "tuple") rfl T.tuple PyProof.Rows.boot_tuple rfl) pa_nil))) (fun _ => rfl)))
        (pw_or1 (pt_cmpR op_ne (pe_callB call_len_seq (by rfl) T.len PySem.boot_len (pa_cons (pv 1) pa_nil)) pe_int (nomark _))))) (pss_one (ps_ret pe_bl)) pss_nil)
      (pss_one (ps_ret (pe_and (pe_call GA hr rfl DA.mgf DA.fn.kp DA.b .nil pass0 (pa_cons (pv 0) (pa_cons (pe_ix ix_tup (pv 1) pe_int (fun _ _ => rfl)) pa_nil))) (pe_one (pe_call GA hr rfl DA.mgf DA.fn.kp DA.b .nil pass0 (pa_cons (pv 0) (pa_cons (pe_ix ix_tup (pv 1) pe_int (fun _ _ => rfl)) pa_nil))))))), ?_⟩
    refine ⟨_, rfl, _, _, true, rfl, .tup ht, rfl, _, rfl, ?_⟩
    refine iteF ⟨_, rfl, t, _, rfl, .inr (SqT.of ht), rfl, _, rfl, ?_⟩
    refine iteF ?_
    refine ⟨_, rfl, _, rfl, t, _, _, _, rfl, rfl, SqT.of ht, atI_nat (j := 0) rfl, .inl ⟨a, ns, x, rfl, ha, _, rfl, ?_⟩⟩
    refine ite2 (fun e => ?_) (fun e => ?_)
    · refine ⟨_, rfl, _, rfl, t, _, _, _, rfl, rfl, SqT.of ht, atI_nat (j := 1) rfl, .inl ⟨a, ns, y, rfl, ha, ?_⟩⟩
      rw [e, Bool.true_and] at k
      exact k
    · rw [Bool.eq_false_iff.mpr e, Bool.false_and] at k
      exact k
/-! ### ties -/
/-- the tuples at ts are these pairs -/
def TiesAt (H : Hp) : List Addr → List (Str × Str) → Prop := Paired fun t p => H t = some (.tup [.str p.1, .str p.2])
def InP (ns : List Str) (ps : List (Str × Str)) : Prop := ∀ p ∈ ps, p.1 ∈ ns ∧ p.2 ∈ ns
theorem TiesAt.mono {H H' : Hp} {ts : List Addr} {ps : List (Str × Str)} (h : TiesAt H ts ps) (k : ∀ t xs, H t = some (.tup xs) → H' t = some (.tup xs)) : TiesAt H' ts ps := Paired.mapP h fun t p e => k t _ e
theorem TiesAt.same {H H' : Hp} {ts : List Addr} {ps : List (Str × Str)} (h : TiesAt H ts ps) (s : Same H H') : TiesAt H' ts ps := h.mono fun t xs e => s t _ e
theorem TiesAt.but {p : Addr} {H H' : Hp} {ts : List Addr} {ps : List (Str × Str)} (h : TiesAt H ts ps) (s : But p H H') (np : ∀ xs, H p ≠ some (.tup xs)) : TiesAt H' ts ps := h.mono fun t xs e => s t _ e fun z => np xs (z ▸ e)
theorem TiesAt.len {H : Hp} {ts : List Addr} {ps : List (Str × Str)} (h : TiesAt H ts ps) : ts.length = ps.length := Paired.length h
theorem TiesAt.get {H : Hp} : ∀ {ts : List Addr} {ps : List (Str × Str)} {i : Nat} {t : Addr}, TiesAt H ts ps → ts[i]? = some t → ∃ p, ps[i]? = some p ∧ H t = some (.tup [.str p.1, .str p.2])
  | _, _, _, _, .nil, e => by simp at e
  | _, _, 0, _, .cons r _, e => by simp at e; subst e; exact ⟨_, rfl, r⟩
  | _, _, i + 1, t, .cons _ h, e => by
    obtain ⟨p, h1, h2⟩ := TiesAt.get (i := i) (t := t) h (by simpa using e)
    exact ⟨p, by simpa using h1, h2⟩
theorem TiesAt.snoc {H : Hp} {ts : List Addr} {ps : List (Str × Str)} {t : Addr} {p : Str × Str} (h : TiesAt H ts ps) (e : H t = some (.tup [.str p.1, .str p.2])) : TiesAt H (ts ++ [t]) (ps ++ [p]) := Paired.snoc h e
def spChkT : Sp := fun vs H Q _ => ∃ (a b : Addr) (ns : List Str) (ts : List Addr) (ps : List (Str × Str)), vs = [.ref a, .ref b] ∧ H a = some (.lst (ns.map V.str)) ∧ H b = some (.lst (ts.map V.ref)) ∧ TiesAt H ts ps ∧ InP ns ps ∧ ps.length ≤ 30 ∧ ∀ H', Same H H' → Q .non H'
theorem scCT : FnScope ["places", "ties"] ["places", "ties"] (defScope sChkT) := ⟨rfl, rfl, rfl, by decide +kernel, rfl, by decide +kernel, by decide +kernel⟩
theorem ok_chkT {f fA fT : Addr} {fd fdA fdT : FuncData} (F : Fun K "check_ties" "check_ties" sChkT f fd) (DA : Df K mg "is_among" sAmong ["places", "thing"] fA fdA) (DT : Df K mg "is_tie" sTie ["places", "thing"] fT fdT) (T : Glb mg) : FnOk P w K mg base CX0 3 f fd ["places", "ties"] spChkT := by
  have GT : FnOk P w K mg base CX0 2 fT fdT ["places", "thing"] (spTie (K := K)) := ok_tie DT.fn DA T
  refine F.ok scCT (fun vs H Q E h => ?_) (fun cdv A outer s H vs Q E hr h => ?_)
  · obtain ⟨a, b, ns, ts, ps, rfl, _⟩ := h
    rfl
  · obtain ⟨a, b, ns, ts, ps, rfl, ha, hb, hT, hI, few, k⟩ := h
    obtain ⟨t30, h30⟩ := T.ties
    refine ⟨_, pss_cons (ps_if (PW.pt (pw_or (pt_not (pt_val (pe_callB (call_isinst (T := "list")) (by rfl) T.isinst PyProof.Rows.boot_isinstance (pa_cons (pv 1) (pa_cons (pe_bltn (v := .ty "list") rfl T.list PyProof.Rows.boot_list rfl) pa_nil))) (fun _ => rfl)))
        (pw_or1 (pt_cmpR op_gt (pe_callB call_len_seq (by rfl) T.len PySem.boot_len (pa_cons (pv 1) pa_nil)) (pe_glob (v := .int 30) rfl h30 ⟨_, rfl⟩) (nomark _))))) (pss_one ps_never) pss_nil)
      (pss_one (ps_if (pt_not (pt_val (pe_callB (call_all rfl) (by rfl) T.all PyProof.Rows.boot_all (pa_cons (pe_lc ["tie"] [0] rfl (compSc (osc := (defScope sChkT).names) (N := ["places", "ties"]) rfl rfl (by decide +kernel)) (gk_name (by decide)) (pi_list (pv 1)) (fun _ _ _ => pg_name (i := 0) (show (["tie", "places"] : List Str).Nodup by decide +kernel) rfl (Or.inl rfl)) (fun _ _ _ => pifs_nil)
          (fun _ _ _ => pe_call GT hr rfl DT.mgf DT.fn.kp DT.b .nil pass0 (pa_cons (pv 1) (pa_cons (pv 0) pa_nil)))) pa_nil)) (fun _ => rfl))) (pss_one ps_never) pss_nil)), ?_⟩
    have le : (ts.map V.ref).length = ps.length := by rw [List.length_map, hT.len]
    refine ⟨_, rfl, _, _, true, rfl, .lst hb, rfl, _, rfl, ?_⟩
    refine iteF ⟨_, rfl, b, _, rfl, .inl (SqL.of hb), _, _, rfl, rfl, _, rfl, ?_⟩
    rw [le]
    refine ite2 (fun z => absurd z (by simp; omega)) (fun _ => ?_)
    refine ⟨_, rfl, b, rfl, ⟨_, SqL.of hb⟩, lc_list (K := K) (xs := ts.map V.ref) (fun i ys H2 => Same H H2 ∧ ys = List.replicate i (V.bl true)) ⟨Same.refl _, rfl⟩ ?_ ?_ ?_ ?_⟩
    · rintro i ys H2 hi ⟨_, rfl⟩
      rw [List.length_replicate]
      rw [le] at hi
      exact Nat.le_trans hi (Nat.le_trans few (by decide))
    · rintro i ys H2 _ ⟨s2, _⟩
      exact SqL.of (s2 _ _ hb)
    · rintro i x ys H2 R hx ⟨s2, rfl⟩ kR
      rw [List.getElem?_map] at hx
      obtain ⟨t, et, rfl⟩ := Option.map_eq_some_iff.mp hx
      obtain ⟨p, ep, ht⟩ := hT.get et
      obtain ⟨i1, i2⟩ := hI p (List.mem_of_getElem? ep)
      simp only [tYes, gName, if_true]
      refine ⟨_, rfl, _, rfl, a, ns, t, p.1, p.2, rfl, SqL.of (s2 _ _ ha), s2 _ _ ht, ?_⟩
      rw [decide_eq_true i1, decide_eq_true i2]
      exact kR _ _ ⟨s2, by rw [List.replicate_succ']; rfl⟩
    · rintro ys H2 ⟨s2, rfl⟩ D hD
      have e : List.replicate (ts.map V.ref).length (V.bl true) = (List.replicate (ts.map V.ref).length true).map V.bl := by simp
      refine ⟨D, List.replicate (ts.map V.ref).length true, rfl, (by rw [e]; exact SqL.of upd_same), _, rfl, ?_⟩
      have e2 : (List.replicate (ts.map V.ref).length true).all id = true := by simp
      rw [e2]
      exact iteF (k _ (s2.trans (same_upd hD)))
end
end K34

set_option Elab.async false
set_option linter.all false
set_option maxRecDepth 100000
set_option maxHeartbeats 4000000
namespace K34
open PySem PySem.Spec PyProof.Rows L2
/-- the class of webs -/
structure WC (K : PySem.W.Frag) (mg : Str → Option Value) (C : Addr) : Prop where
  cl : Cls K C
  nP : NoAttr K C "kept_places"
  nT : NoAttr K C "kept_ties"
  mgC : mg "Web" = some (.ref C)
def wf (kp kt : Addr) : List (Str × V) := [("kept_places", .ref kp), ("kept_ties", .ref kt)]
/-- a web stands at x -/
def WebObj (C : Addr) (H : Hp) (x : Addr) (ns : List Str) (ps : List (Str × Str)) : Prop :=
  ∃ dx kp kt ts, H x = some (.ins C dx (wf kp kt)) ∧ H kp = some (.tup ((srt ns).map V.str)) ∧ H kt = some (.tup (ts.map V.ref)) ∧ TiesAt H ts ps
theorem WebObj.same {C : Addr} {H H' : Hp} {x : Addr} {ns : List Str} {ps : List (Str × Str)} (h : WebObj C H x ns ps) (s : Same H H') : WebObj C H' x ns ps :=
  let ⟨dx, kp, kt, ts, h1, h2, h3, h4⟩ := h
  ⟨dx, kp, kt, ts, s _ _ h1, s _ _ h2, s _ _ h3, h4.same s⟩
theorem WebObj.but {C p : Addr} {H H' : Hp} {x : Addr} {ns : List Str} {ps : List (Str × Str)} {xs : List V} (h : WebObj C H x ns ps) (s : But p H H') (hp : H p = some (.lst xs)) : WebObj C H' x ns ps :=
  let ⟨dx, kp, kt, ts, h1, h2, h3, h4⟩ := h
  ⟨dx, kp, kt, ts, s _ _ h1 (ne_of h1 hp (by intro z; cases z)), s _ _ h2 (ne_of h2 hp (by intro z; cases z)), s _ _ h3 (ne_of h3 hp (by intro z; cases z)), h4.but s (fun ys z => by rw [hp] at z; cases z)⟩
theorem wf_p (kp kt : Addr) : (wf kp kt).lookup ("kept_places" : Str) = some (V.ref kp) := rfl
theorem wf_t (kp kt : Addr) : (wf kp kt).lookup ("kept_ties" : Str) = some (V.ref kt) := by
  show List.lookup _ (_ :: _) = _
  rw [List.lookup_cons, show (("kept_ties" : Str) == "kept_places") = false by decide +kernel]
  rfl
theorem wf_no (kp kt : Addr) (m : Str) (h1 : (m == ("kept_places" : Str)) = false) (h2 : (m == ("kept_ties" : Str)) = false) : (wf kp kt).lookup m = none := by
  show List.lookup _ (_ :: _) = _
  rw [List.lookup_cons, h1]
  show List.lookup _ (_ :: _) = _
  rw [List.lookup_cons, h2]
  rfl
section
variable {P : Program} {w : World} {K : PySem.W.Frag} {mg : Str → Option Value} {base : Heap}
/-- the lists of a web: names at a, ties at b -/
structure Lists (H : Hp) (a b : Addr) (ns : List Str) (ps : List (Str × Str)) (ts : List Addr) : Prop where
  ha : H a = some (.lst (ns.map V.str))
  hb : H b = some (.lst (ts.map V.ref))
  hT : TiesAt H ts ps
  good : GoodP ns
  ins : InP ns ps
  few : ps.length ≤ 30
theorem Lists.same {H H' : Hp} {a b : Addr} {ns : List Str} {ps : List (Str × Str)} {ts : List Addr} (h : Lists H a b ns ps ts) (s : Same H H') : Lists H' a b ns ps ts := ⟨s _ _ h.ha, s _ _ h.hb, h.hT.same s, h.good, h.ins, h.few⟩
def spInit (C : Addr) : Sp := fun vs H Q _ => ∃ (x a b : Addr) (ns : List Str) (ps : List (Str × Str)) (ts : List Addr), vs = [.ref x, .ref a, .ref b] ∧ (∃ dx, H x = some (.ins C dx [])) ∧ Lists H a b ns ps ts ∧ ∀ H', WebObj C H' x ns ps → But x H H' → Q .non H'
theorem scIn : FnScope ["self", "places", "ties"] ["self", "places", "ties"] (defScope sInit) := ⟨rfl, rfl, rfl, by decide +kernel, rfl, by decide +kernel, by decide +kernel⟩
theorem ok_init {C f fN fA fT f1 f2 : Addr} {fd fdN fdA fdT fd1 fd2 : FuncData} (F : Fun K "__init__" "Web.__init__" sInit f fd) (W : WC K mg C) (DN : Df K mg "is_name" sName ["thing"] fN fdN) (DA : Df K mg "is_among" sAmong ["places", "thing"] fA fdA) (DT : Df K mg "is_tie" sTie ["places", "thing"] fT fdT)
    (D1 : Df K mg "check_places" sChkP ["places"] f1 fd1) (D2 : Df K mg "check_ties" sChkT ["places", "ties"] f2 fd2) (T : Glb mg) : FnOk P w K mg base CX0 4 f fd ["self", "places", "ties"] (spInit C) := by
  have G1 : FnOk P w K mg base CX0 2 f1 fd1 ["places"] spChkP := ok_chkP D1.fn DN T
  have G2 : FnOk P w K mg base CX0 3 f2 fd2 ["places", "ties"] spChkT := ok_chkT D2.fn DA DT T
  refine F.ok scIn (fun vs H Q E h => ?_) (fun cdv A outer s H vs Q E hr h => ?_)
  · obtain ⟨x, a, b, ns, ps, ts, rfl, _⟩ := h
    rfl
  · obtain ⟨x, a, b, ns, ps, ts, rfl, ⟨dx, hx⟩, L, k⟩ := h
    refine ⟨_, pss_cons (ps_expr (pe_call G1 (hr.mono (by decide)) rfl D1.mgf D1.fn.kp D1.b .nil pass0 (pa_cons (pv 1) pa_nil)))
      (pss_cons (ps_expr (pe_call G2 (hr.mono (by decide)) rfl D2.mgf D2.fn.kp D2.b .nil pass0 (pa_cons (pv 1) (pa_cons (pv 2) pa_nil))))
      (pss_cons (ps_fld (pv 0) (pe_callTy call_tuple_of (by rfl) T.tuple PyProof.Rows.boot_tuple (pa_cons (pe_callB call_sorted_txt (by rfl) T.sorted PyProof.Rows.boot_sorted (pa_cons (pv 1) pa_nil)) pa_nil)) rfl)
      (pss_one (ps_fld (pv 0) (pe_callTy call_tuple_of (by rfl) T.tuple PyProof.Rows.boot_tuple (pa_cons (pe_lc ["a", "b"] [] rfl (compSc (osc := (defScope sInit).names) (N := ["self", "places", "ties"]) rfl rfl (by decide +kernel)) (gk_two (k := 2) (by decide) (by decide)) (pi_list (pv 2))
        (fun _ _ _ => pg_tup (n := 2) rfl (pgs_cons (pg_name (i := 0) (show (["a", "b"] : List Str).Nodup by decide +kernel) rfl (Or.inl rfl)) (pgs_cons (pg_name (i := 1) (show (["a", "b"] : List Str).Nodup by decide +kernel) rfl (Or.inl rfl)) pgs_nil))) (fun _ _ _ => pifs_nil)
        (fun _ _ _ => pe_tup (pa_cons (pv 0) (pa_cons (pv 1) pa_nil)))) pa_nil)) rfl)))), ?_⟩
    refine ⟨_, rfl, a, ns, rfl, L.ha, L.good, fun H1 s1 => ?_⟩
    have L1 := L.same s1
    refine ⟨_, rfl, _, rfl, a, b, ns, ts, ps, rfl, L1.ha, L1.hb, L1.hT, L1.ins, L1.few, fun H2 s2 => ?_⟩
    have L2' := L1.same s2
    refine ⟨_, rfl, a, ns, rfl, SqL.of L2'.ha, Nat.lt_of_le_of_lt L.good.few (by decide), fun l hl => ?_⟩
    refine ⟨l, _, rfl, .inl ⟨SqL.of upd_same, fun kp hkp => ?_⟩⟩
    have s3 : Same H2 (upd (upd H2 l (.lst ((srt ns).map V.str))) kp (.tup ((srt ns).map V.str))) := (same_upd hl).trans (same_upd hkp)
    have s03 := (s1.trans s2).trans s3
    have hkp3 := upd_same (H := upd H2 l (.lst ((srt ns).map V.str))) (a := kp) (o := .tup ((srt ns).map V.str))
    generalize upd (upd H2 l (.lst ((srt ns).map V.str))) kp (.tup ((srt ns).map V.str)) = H3 at s3 s03 hkp3 ⊢
    have hx3 := s03 _ _ hx
    refine ⟨_, rfl, x, C, dx, _, rfl, hx3, W.cl, W.nP, (by show 0 < 1000; decide), ?_⟩
    have L3 := L.same s03
    have nax : a ≠ x := ne_of L3.ha hx3 (by intro z; cases z)
    have nbx : b ≠ x := ne_of L3.hb hx3 (by intro z; cases z)
    have nkx : kp ≠ x := ne_of hkp3 hx3 (by intro z; cases z)
    have L4 : Lists (upd H3 x (.ins C dx (putF "kept_places" (.ref kp) []))) a b ns ps ts := ⟨by rw [upd_ne nax]; exact L3.ha, by rw [upd_ne nbx]; exact L3.hb, L3.hT.mono fun t xs e => by rw [upd_ne (ne_of e hx3 (by intro z; cases z))]; exact e, L.good, L.ins, L.few⟩
    have b4 : But x H (upd H3 x (.ins C dx (putF "kept_places" (.ref kp) []))) := fun c o e n => by rw [upd_ne n]; exact s03 _ _ e
    have hx4 := upd_same (H := H3) (a := x) (o := .ins C dx (putF "kept_places" (.ref kp) []))
    have hkp4 : (upd H3 x (.ins C dx (putF "kept_places" (.ref kp) []))) kp = some (.tup ((srt ns).map V.str)) := by rw [upd_ne nkx]; exact hkp3
    generalize upd H3 x (.ins C dx (putF "kept_places" (.ref kp) [])) = H4 at L4 b4 hx4 hkp4 ⊢
    have le : (ts.map V.ref).length = ps.length := by rw [List.length_map, L.hT.len]
    refine ⟨_, rfl, b, rfl, ⟨_, SqL.of L4.hb⟩, lc_list (K := K) (xs := ts.map V.ref) (fun i ys H5 => Same H4 H5 ∧ ∃ us : List Addr, ys = us.map V.ref ∧ us.length = i ∧ TiesAt H5 us (ps.take i)) ⟨Same.refl _, [], rfl, rfl, .nil⟩ ?_ ?_ ?_ ?_⟩
    · rintro i ys H5 hi ⟨_, us, rfl, e, _⟩
      rw [List.length_map, e]
      rw [le] at hi
      exact Nat.le_trans hi (Nat.le_trans L.few (by decide))
    · rintro i ys H5 _ ⟨s5, _⟩
      exact SqL.of (s5 _ _ L4.hb)
    · rintro i y ys H5 R hy ⟨s5, us, rfl, e, hU⟩ kR
      rw [List.getElem?_map] at hy
      obtain ⟨t, et, rfl⟩ := Option.map_eq_some_iff.mp hy
      obtain ⟨p, ep, ht⟩ := L4.hT.get et
      refine ⟨t, _, rfl, SqT.of (s5 _ _ ht), rfl, _, _, rfl, _, _, rfl, rfl, ?_⟩
      simp only [tYes, if_true]
      refine ⟨_, rfl, _, rfl, (by show 2 ≤ sizeLine; decide), fun u hu => ?_⟩
      have e2 : us.map V.ref ++ [V.ref u] = (us ++ [u]).map V.ref := by simp
      refine kR _ _ ⟨s5.trans (same_upd hu), us ++ [u], e2, by simp [e], ?_⟩
      rw [List.take_add_one, ep]
      exact (hU.same (same_upd hu)).snoc upd_same
    · rintro ys H5 ⟨s5, us, rfl, e, hU⟩ D hD
      rw [le, List.take_of_length_le (Nat.le_refl _)] at hU
      refine ⟨D, _, rfl, .inl ⟨SqL.of upd_same, fun kt hkt => ?_⟩⟩
      have s6 : Same H4 (upd (upd H5 D (.lst (us.map V.ref))) kt (.tup (us.map V.ref))) := s5.trans ((same_upd hD).trans (same_upd hkt))
      have hU6 := hU.same ((same_upd (o := .lst (us.map V.ref)) hD).trans (same_upd (o := .tup (us.map V.ref)) hkt))
      have hkt6 := upd_same (H := upd H5 D (.lst (us.map V.ref))) (a := kt) (o := .tup (us.map V.ref))
      generalize upd (upd H5 D (.lst (us.map V.ref))) kt (.tup (us.map V.ref)) = H6 at s6 hU6 hkt6 ⊢
      have hx6 := s6 _ _ hx4
      refine ⟨_, rfl, x, C, dx, _, rfl, hx6, W.cl, W.nT, (by show 1 < 1000; decide), ?_⟩
      refine k _ ⟨dx, kp, kt, us, ?_, ?_, ?_, ?_⟩ fun c o e n => ?_
      · rw [upd_same]
        show some (HO.ins C dx (putF "kept_ties" (.ref kt) (putF "kept_places" (.ref kp) []))) = _
        rfl
      · rw [upd_ne (ne_of (s6 _ _ hkp4) hx6 (by intro z; cases z))]; exact s6 _ _ hkp4
      · rw [upd_ne (ne_of hkt6 hx6 (by intro z; cases z))]; exact hkt6
      · exact hU6.mono fun t xs e => by rw [upd_ne (ne_of e hx6 (by intro z; cases z))]; exact e
      · rw [upd_ne n]; exact s6 _ _ (b4 c o e n)
/-! ### places, many, tie, ties -/
def spPl (C : Addr) : Sp := fun vs H Q _ => ∃ (x : Addr) (ns : List Str) (ps : List (Str × Str)), vs = [.ref x] ∧ WebObj C H x ns ps ∧ ∀ l, H l = none → Q (.ref l) (upd H l (.lst ((srt ns).map V.str)))
theorem scPl : FnScope ["self"] ["self"] (defScope sPlaces) := ⟨rfl, rfl, rfl, by decide +kernel, rfl, by decide +kernel, by decide +kernel⟩
theorem ok_places {C f : Addr} {fd : FuncData} (F : Fun K "places" "Web.places" sPlaces f fd) (W : WC K mg C) (T : Glb mg) : FnOk P w K mg base CX0 1 f fd ["self"] (spPl C) := by
  refine F.ok scPl (fun vs H Q E h => ?_) (fun cdv A outer s H vs Q E hr h => ?_)
  · obtain ⟨x, ns, ps, rfl, _⟩ := h
    rfl
  · obtain ⟨x, ns, ps, rfl, ⟨dx, kp, kt, ts, h1, h2, h3, h4⟩, k⟩ := h
    refine ⟨_, pss_one (ps_ret (pe_callTy call_list_of (by rfl) T.list PyProof.Rows.boot_list (pa_cons (pe_fld (pv 0) rfl) pa_nil))), ?_⟩
    exact ⟨_, rfl, x, C, dx, _, _, rfl, h1, W.cl, W.nP, wf_p kp kt, kp, _, rfl, .inr (SqT.of h2), k⟩
def spTs (C : Addr) : Sp := fun vs H Q _ => ∃ (x : Addr) (ns : List Str) (ps : List (Str × Str)), vs = [.ref x] ∧ WebObj C H x ns ps ∧ ∀ l us, H l = none → TiesAt H us ps → Q (.ref l) (upd H l (.lst (us.map V.ref)))
theorem scTs : FnScope ["self"] ["self"] (defScope sTies) := ⟨rfl, rfl, rfl, by decide +kernel, rfl, by decide +kernel, by decide +kernel⟩
theorem ok_ties {C f : Addr} {fd : FuncData} (F : Fun K "ties" "Web.ties" sTies f fd) (W : WC K mg C) (T : Glb mg) : FnOk P w K mg base CX0 1 f fd ["self"] (spTs C) := by
  refine F.ok scTs (fun vs H Q E h => ?_) (fun cdv A outer s H vs Q E hr h => ?_)
  · obtain ⟨x, ns, ps, rfl, _⟩ := h
    rfl
  · obtain ⟨x, ns, ps, rfl, ⟨dx, kp, kt, ts, h1, h2, h3, h4⟩, k⟩ := h
    refine ⟨_, pss_one (ps_ret (pe_callTy call_list_of (by rfl) T.list PyProof.Rows.boot_list (pa_cons (pe_fld (pv 0) rfl) pa_nil))), ?_⟩
    exact ⟨_, rfl, x, C, dx, _, _, rfl, h1, W.cl, W.nT, wf_t kp kt, kt, _, rfl, .inr (SqT.of h3), fun l hl => k l ts hl h4⟩
end
end K34

set_option Elab.async false
set_option linter.all false
set_option maxRecDepth 100000
set_option maxHeartbeats 4000000
namespace K34
open PySem PySem.Spec PyProof.Rows L2
section
variable {P : Program} {w : World} {K : PySem.W.Frag} {mg : Str → Option Value} {base : Heap}
end
end K34

set_option Elab.async false
set_option linter.all false
set_option maxRecDepth 100000
set_option maxHeartbeats 4000000
namespace L2
open PySem PySem.Spec PyProof.Rows
/-- one sign as a text -/
abbrev one (c : Nat) : Str := ⟨#[c]⟩
theorem glue_ones : ∀ (cs : List Nat) (acc : Array Nat), ((cs.map one).foldl (fun acc p => acc ++ ("" : Str).cps ++ p.cps) acc).toList = acc.toList ++ cs
  | [], acc => by simp
  | c :: cs, acc => by
    have e : ("" : Str).cps = #[] := by decide +kernel
    rw [List.map_cons, List.foldl_cons, glue_ones cs, e]
    simp
theorem join_ones {cs : List Nat} (h : cs ≠ []) : (Txt.join "" (cs.map one)).cps.toList = cs := by
  cases cs with
  | nil => exact absurd rfl h
  | cons c r =>
    show ((r.map one).foldl (fun acc p => acc ++ ("" : Str).cps ++ p.cps) (one c).cps).toList = _
    rw [glue_ones]
    rfl
theorem atI_mem {α : Type} {xs : List α} {i : Int} {v : α} (h : atI xs i = some v) : v ∈ xs := by
  unfold atI at h
  obtain ⟨j, _, e⟩ := Option.bind_eq_some_iff.mp h
  exact List.mem_of_getElem? e
end L2
namespace K34
open PySem PySem.Spec PyProof.Rows L2
abbrev abc : Str := "abcdefghijklmnopqrstuvwxyz"
theorem abc_ok : ∀ c ∈ abc.cps.toList, (lo c && hi c) = true := by decide +kernel
theorem nm_of {z : Str} {cs : List Nat} (e : z.cps.toList = cs) (h1 : 1 ≤ cs.length) (h8 : cs.length ≤ 8) (h : ∀ c ∈ cs, (lo c && hi c) = true) : nm z = true := by
  have l : z.length = cs.length := by rw [← e]; exact Array.length_toList.symm
  unfold nm
  rw [l, decide_eq_true h1, decide_eq_true h8, e]
  simp only [Bool.and_self, Bool.true_and, List.all_map, List.all_eq_true]
  exact fun c hc => h c hc
section
variable {P : Program} {w : World} {K : PySem.W.Frag} {mg : Str → Option Value} {base : Heap}
end
end K34

set_option Elab.async false
set_option linter.all false
set_option maxRecDepth 100000
set_option maxHeartbeats 4000000
namespace K34
open PySem PySem.Spec PyProof.Rows L2
section
variable {P : Program} {w : World} {K : PySem.W.Frag} {mg : Str → Option Value} {base : Heap}
/-- the row at p written, the list at q laid since H -/
theorem Row.lst {H : Hp} {p : Addr} (h : Row H p) : ∃ xs, H p = some (.lst xs) := let ⟨a, b, e⟩ := h; ⟨_, e⟩
theorem Row.upd_ne {H : Hp} {p q : Addr} {o : HO} (h : Row H p) (n : p ≠ q) : Row (upd H q o) p := let ⟨a, b, e⟩ := h; ⟨a, b, by rw [L2.upd_ne n]; exact e⟩
theorem But.upd_new {p q : Addr} {H H1 : Hp} {o : HO} (a : But p H H1) (hq : H q = none) : But p H (upd H1 q o) := fun c u e n => by rw [L2.upd_ne (ne_of_none e hq)]; exact a c u e n
end
end K34

set_option Elab.async false
set_option linter.all false
set_option maxRecDepth 100000
set_option maxHeartbeats 4000000
namespace K34
open PySem PySem.Spec PyProof.Rows L2
abbrev sPot : Stmt := top 32 -- _law_pot
abbrev sDigit : Stmt := top 33 -- _law_digit
abbrev sNames : Stmt := top 34 -- _law_names
abbrev sShuf : Stmt := top 35 -- _law_shuffled
theorem low {A : Around} {k : Nat} (n : Nat) (hr : Room k A) (h : n ≤ 63 := by decide) : A.units + n + 1 < cLine := by have := hr.units; omega
theorem Same.upd_new {H H1 : Hp} {q : Addr} {o : HO} (s : Same H H1) (hq : H q = none) : Same H (upd H1 q o) := fun b u e => by rw [L2.upd_ne (ne_of_none e hq)]; exact s b u e
theorem Same.but {H H1 H2 : Hp} {p : Addr} (s : Same H H1) (b : But p H1 H2) (hp : H p = none) : Same H H2 := fun c u e => b c u (s c u e) (ne_of_none e hp)
/-- a cell that was free before is free of what was there -/
theorem But.none {p t : Addr} {H H' : Hp} (b : But p H H') (ht : H' t = none) (n : t ≠ p) : H t = none := by
  cases e : H t with
  | none => rfl
  | some o => exact absurd (b _ _ e n) (by rw [ht]; intro z; cases z)
section
variable {P : Program} {w : World} {K : PySem.W.Frag} {mg : Str → Option Value} {base : Heap}
def spPot : Sp := fun vs H Q _ => ∃ (a : Addr) (ns : List Int) (k : Nat), vs = [.ref a, .int k] ∧ SqL K H a (ns.map V.int) ∧ ns.length ≤ 63 ∧ ∀ (p : Addr) (H' : Hp), H p = none → Row H' p → Same H H' → Q (.ref p) H'
abbrev nPo : List Str := ["_law_script", "_law_k", "_law_cell"]
theorem scPo : FnScope nPo ["_law_script", "_law_k"] (defScope sPot) := ⟨rfl, rfl, rfl, by decide +kernel, rfl, by decide +kernel, by decide +kernel⟩
theorem row_end {H : Hp} {Q : VK} (k : ∀ (p : Addr) (H' : Hp), H p = none → Row H' p → Same H H' → Q (.ref p) H') (a b : Int) (p : Addr) (hp : H p = none) : Q (.ref p) (upd H p (.lst [.int a, .int b])) :=
  k p _ hp ⟨a, b, upd_same⟩ fun c o e => by rw [upd_ne (ne_of_none e hp)]; exact e
theorem ok_pot {f : Addr} {fd : FuncData} (F : Fun K "_law_pot" "_law_pot" sPot f fd) (T : Glb mg) (ab : mg "abs" = none) : FnOk P w K mg base CX0 1 f fd ["_law_script", "_law_k"] (spPot (K := K)) := by
  refine F.ok scPo (fun vs H Q E h => ?_) (fun cdv A outer s H vs Q E hr h => ?_)
  · obtain ⟨a, ns, k, rfl, _⟩ := h
    rfl
  · obtain ⟨a, ns, n, rfl, hS, hl, k⟩ := h
    refine ⟨_, pss_cons (ps_set (i := 2) scPo.nd rfl (Or.inl rfl) pe_int)
      (pss_cons (ps_if (pt_cmpR op_lt (pv 1) (pe_callB call_len_seq (by rfl) T.len PySem.boot_len (pa_cons (pv 0) pa_nil)) (nomark _)) (pss_one (ps_set (i := 2) scPo.nd rfl (Or.inl rfl) (pe_ix ix_list (pv 0) (pv 1) (fun _ _ => rfl)))) pss_nil)
      (pss_one (ps_ret (pe_lst (pa_cons (pe_callB (call_max2 rfl) (by rfl) T.max PyProof.Rows.boot_max (pa_cons pe_int (pa_cons (pe_op op_sub (pe_callB call_abs (by rfl) ab PyProof.Rows.boot_abs (pa_cons (pv 2) pa_nil)) (pe_op op_pow pe_int pe_int)) pa_nil)))
        (pa_cons (pe_op op_add (pe_op op_add (pe_op op_mod (pe_callB call_abs (by rfl) ab PyProof.Rows.boot_abs (pa_cons (pv 2) pa_nil)) pe_int) (pe_op op_mul pe_int (pv 1))) pe_int) pa_nil)))))), ?_⟩
    refine ⟨_, rfl, _, rfl, a, _, rfl, .inl hS, _, _, rfl, rfl, _, rfl, ?_⟩
    refine ite2 (fun hlt => ?_) (fun hlt => ?_)
    · have hlt' : n < ns.length := by simpa using hlt
      refine ⟨_, rfl, _, rfl, a, _, _, _, rfl, rfl, hS, atI_nat (j := n) (v := .int ns[n]) (by simp [hlt']), ?_⟩
      refine ⟨_, rfl, _, rfl, _, _, rfl, rfl, ⟨by decide, by decide, by decide⟩, _, _, rfl, rfl, _, _, rfl, ?_⟩
      refine ⟨_, rfl, _, rfl, _, _, rfl, rfl, (by show (0 : Int) < 2147483629; decide), _, rfl, _, _, rfl, rfl, .inl ⟨by decide, by decide⟩, _, _, rfl, rfl, _, _, rfl, rfl, ?_⟩
      exact ⟨(by show 2 ≤ sizeLine; decide), row_end k _ _⟩
    · refine ⟨_, rfl, _, rfl, _, _, rfl, rfl, ⟨by decide, by decide, by decide⟩, _, _, rfl, rfl, _, _, rfl, ?_⟩
      refine ⟨_, rfl, _, rfl, _, _, rfl, rfl, (by show (0 : Int) < 2147483629; decide), _, rfl, _, _, rfl, rfl, .inl ⟨by decide, by decide⟩, _, _, rfl, rfl, _, _, rfl, rfl, ?_⟩
      exact ⟨(by show 2 ≤ sizeLine; decide), row_end k _ _⟩
def spDg : Sp := fun vs H Q _ => ∃ (p : Addr) (m : Int), vs = [.ref p, .int m] ∧ Row H p ∧ 0 < m ∧ m < 1000 ∧ ∀ (d : Int) (H' : Hp), 0 ≤ d → d < m → Row H' p → But p H H' → Q (.int d) H'
abbrev nDg : List Str := ["_law_pot_here", "_law_many", "_law_digit_here"]
theorem scDg : FnScope nDg ["_law_pot_here", "_law_many"] (defScope sDigit) := ⟨rfl, rfl, rfl, by decide +kernel, rfl, by decide +kernel, by decide +kernel⟩
theorem ok_digit {f : Addr} {fd : FuncData} (F : Fun K "_law_digit" "_law_digit" sDigit f fd) (T : Glb mg) : FnOk P w K mg base CX0 1 f fd ["_law_pot_here", "_law_many"] spDg := by
  refine F.ok scDg (fun vs H Q E h => ?_) (fun cdv A outer s H vs Q E hr h => ?_)
  · obtain ⟨p, m, rfl, _⟩ := h
    rfl
  · obtain ⟨p, m, rfl, ⟨a, b, hp⟩, m0, m1, k⟩ := h
    refine ⟨_, pss_cons (ps_if (pt_cmpR op_gt (pe_ix ix_list (pv 0) pe_int (fun _ _ => rfl)) pe_int (nomark _))
      (pss_cons (ps_set (i := 2) scDg.nd rfl (Or.inl rfl) (pe_op op_mod (pe_ix ix_list (pv 0) pe_int (fun _ _ => rfl)) (pv 1)))
      (pss_cons (ps_asg (pe_op op_fdiv (pe_ix ix_list (pv 0) pe_int (fun _ _ => rfl)) (pv 1)) (pg_sub (pv 0) pe_int set_list)) (pss_one (ps_ret (pv 2))))) pss_nil)
      (pss_cons (ps_asg (pe_op op_mod (pe_op op_add (pe_op op_mul (pe_ix ix_list (pv 0) pe_int (fun _ _ => rfl)) pe_int) pe_int) pe_int) (pg_sub (pv 0) pe_int set_list))
      (pss_one (ps_ret (pe_op op_mod (pe_op op_fdiv (pe_ix ix_list (pv 0) pe_int (fun _ _ => rfl)) pe_int) (pv 1))))), ?_⟩
    refine ⟨_, rfl, p, _, _, _, rfl, rfl, SqL.of hp, atI_nat (j := 0) rfl, ?_⟩
    refine ⟨_, _, rfl, rfl, _, rfl, ?_⟩
    refine ite2 (fun ha => ?_) (fun ha => ?_)
    · refine ⟨_, rfl, p, _, _, _, rfl, rfl, SqL.of hp, atI_nat (j := 0) rfl, _, rfl, _, _, rfl, rfl, m0, ?_⟩
      refine ⟨_, rfl, p, _, _, _, rfl, rfl, SqL.of hp, atI_nat (j := 0) rfl, _, rfl, _, _, rfl, rfl, ⟨m0, Int.lt_trans m1 (by decide)⟩, ?_⟩
      refine ⟨_, rfl, p, _, _, 0, rfl, rfl, hp, rfl, _, rfl, ?_⟩
      refine k _ _ (Int.emod_nonneg _ (by omega)) (Int.emod_lt_of_pos _ m0) ⟨_, _, upd_same⟩ fun c o e hc => ?_
      rw [upd_ne hc]
      exact e
    · refine ⟨_, rfl, p, _, _, _, rfl, rfl, SqL.of hp, atI_nat (j := 1) rfl, _, _, rfl, rfl, .inr ⟨by decide, by decide⟩, _, _, rfl, rfl, _, _, rfl, rfl, (by show (0 : Int) < 2147483629; decide), ?_⟩
      refine ⟨_, rfl, p, _, _, 1, rfl, rfl, hp, rfl, ?_⟩
      refine ⟨_, rfl, p, _, _, _, rfl, rfl, SqL.of upd_same, atI_nat (j := 1) rfl, _, _, rfl, rfl, ⟨by decide, by decide⟩, _, rfl, _, _, rfl, rfl, m0, ?_⟩
      refine k _ _ (Int.emod_nonneg _ (by omega)) (Int.emod_lt_of_pos _ m0) ⟨_, _, upd_same⟩ fun c o e hc => ?_
      rw [upd_ne hc]
      exact e
end
end K34

set_option Elab.async false
set_option linter.all false
set_option maxRecDepth 100000
set_option maxHeartbeats 4000000
namespace L2
open PySem PySem.Spec PyProof.Rows
/-! ### what a place reaches -/
open Classical in
theorem perm_of {α : Type} [DecidableEq α] : ∀ {l m : List α}, l.Nodup → m.Nodup → (∀ x, x ∈ l ↔ x ∈ m) → l.Perm m := fun hl hm h => (List.perm_ext_iff_of_nodup hl hm).mpr h
theorem srt_same {l m : List Str} (hl : l.Nodup) (hm : m.Nodup) (h : ∀ x, x ∈ l ↔ x ∈ m) : srt l = srt m :=
  srt_of ((srt_perm l).trans (perm_of hl hm h)) (srt_pw l)
theorem srt_mem {l : List Str} {x : Str} : x ∈ srt l ↔ x ∈ l := (srt_perm l).mem_iff
theorem srt_nd {l : List Str} (h : l.Nodup) : (srt l).Nodup := (srt_perm l).nodup_iff.mpr h
theorem srt_srt (l : List Str) : srt (srt l) = srt l := (srt_of (srt_perm (srt l) |>.trans (srt_perm l)) (srt_pw (srt l)))
theorem nd_le {l m : List Str} (hl : l.Nodup) (h : ∀ x ∈ l, x ∈ m) : l.length ≤ m.length := by
  induction l generalizing m with
  | nil => exact Nat.zero_le _
  | cons x l ih =>
    rw [List.nodup_cons] at hl
    have hx := h x List.mem_cons_self
    have q := ih (m := m.erase x) hl.2 fun y hy => (List.mem_erase_of_ne (fun e : y = x => hl.1 (e ▸ hy))).mpr (h y (List.mem_cons_of_mem _ hy))
    rw [List.length_erase_of_mem hx] at q
    have : 0 < m.length := List.length_pos_of_mem hx
    simp only [List.length_cons]
    omega
end L2

set_option Elab.async false
set_option linter.all false
set_option maxRecDepth 100000
set_option maxHeartbeats 4000000
namespace K34
open PySem PySem.Spec PyProof.Rows L2
section
variable {P : Program} {w : World} {K : PySem.W.Frag} {mg : Str → Option Value} {base : Heap}
/-! ### names, each by its own first letter -/
def Firsts (ns : List Str) : Prop := ∀ (j : Nat) (z : Str), ns[j]? = some z → ∃ (c : Nat) (r : List Nat), abc.cps.toList[j]? = some c ∧ z.cps.toList = c :: r
theorem abc_at : ∀ (j : Nat), j < 26 → abc.cps.toList[j]? = some (97 + j) := by decide +kernel
theorem Firsts.nil : Firsts [] := fun j z h => by simp at h
theorem Firsts.snoc {ns : List Str} {z : Str} {c : Nat} {r : List Nat} (h : Firsts ns) (hc : abc.cps.toList[ns.length]? = some c) (e : z.cps.toList = c :: r) : Firsts (ns ++ [z]) := fun j y hy => by
  rcases Nat.lt_trichotomy j ns.length with q | q | q
  · rw [List.getElem?_append_left q] at hy; exact h j y hy
  · subst q
    rw [List.getElem?_append_right (Nat.le_refl _)] at hy
    simp at hy; subst hy
    exact ⟨c, r, hc, e⟩
  · rw [List.getElem?_append_right (Nat.le_of_lt q)] at hy
    have : j - ns.length = (j - ns.length - 1) + 1 := by omega
    rw [this] at hy
    simp at hy
theorem Firsts.lt {ns : List Str} (h : Firsts ns) (hl : ns.length ≤ 26) {i j : Nat} {a b : Str} (hij : i < j) (ha : ns[i]? = some a) (hb : ns[j]? = some b) : a.cps.toList < b.cps.toList := by
  have hj : j < ns.length := (List.getElem?_eq_some_iff.mp hb).1
  obtain ⟨c, r, hc, ea⟩ := h i a ha
  obtain ⟨d, q, hd, eb⟩ := h j b hb
  rw [abc_at i (by omega)] at hc
  rw [abc_at j (by omega)] at hd
  cases hc; cases hd
  rw [ea, eb]
  exact List.Lex.rel (by omega)
theorem Firsts.pw {ns : List Str} (h : Firsts ns) (hl : ns.length ≤ 26) : ns.Pairwise fun a b => a.cps.toList < b.cps.toList :=
  List.pairwise_iff_getElem.mpr fun i j hi hj hij => h.lt hl hij (by simp [hi]) (by simp [hj])
theorem Firsts.rises {ns : List Str} (h : Firsts ns) (hl : ns.length ≤ 26) : srt ns = ns :=
  (srt_of (.refl _) ((h.pw hl).imp fun {a b} q => leS_iff.mpr (List.le_of_lt q))).symm
theorem Firsts.nd {ns : List Str} (h : Firsts ns) (hl : ns.length ≤ 26) : ns.Nodup := (h.pw hl).imp fun {a b} q e => by rw [e] at q; exact List.lt_irrefl _ q
theorem join_ones0 {cs : List Nat} : (Txt.join "" (cs.map one)).cps.toList = cs := by
  cases cs with
  | nil => rfl
  | cons c r => exact join_ones (by simp)
def spNames : Sp := fun vs H Q _ => ∃ (p : Addr) (m : Int), vs = [.ref p, .int m] ∧ 0 < m ∧ m ≤ 12 ∧ Row H p ∧ ∀ (q : Addr) (ns : List Str) (H' : Hp), GoodP ns → srt ns = ns → H q = none → H' q = some (.lst (ns.map V.str)) → Row H' p → But p H H' → Q (.ref q) H'
abbrev nNa : List Str := ["_law_pot_here", "_law_many", "_law_letters", "_law_found", "_law_k", "_law_tail"]
theorem scNa : FnScope nNa ["_law_pot_here", "_law_many"] (defScope sNames) := ⟨rfl, rfl, rfl, by decide +kernel, rfl, by decide +kernel, by decide +kernel⟩
def NaI (p q : Addr) (m : Int) (H : Hp) (i : Nat) (σ : L2.St) (H2 : Hp) : Prop := ∃ (v4 v5 : Option V) (ns : List Str), σ = [some (V.ref p), some (V.int m), some (V.str abc), some (V.ref q), v4, v5] ∧ Row H2 p ∧ But p H H2 ∧ H2 q = some (.lst (ns.map V.str)) ∧ ns.length = i ∧ (∀ z ∈ ns, nm z = true) ∧ Firsts ns
theorem sum_ones (cs : List Nat) : ((cs.map one).map (·.length)).sum = cs.length := by
  rw [List.map_map]
  induction cs with
  | nil => rfl
  | cons c r ih => rw [List.map_cons, List.sum_cons, ih]; show 1 + _ = _; simp; omega
theorem ok_names {f fD : Addr} {fd fdD : FuncData} (F : Fun K "_law_names" "_law_names" sNames f fd) (D : Df K mg "_law_digit" sDigit ["_law_pot_here", "_law_many"] fD fdD) (T : Glb mg) : FnOk P w K mg base CX0 2 f fd ["_law_pot_here", "_law_many"] spNames := by
  have G : FnOk P w K mg base CX0 1 fD fdD ["_law_pot_here", "_law_many"] spDg := ok_digit D.fn T
  refine F.ok scNa (fun vs H Q E h => ?_) (fun cdv A outer s H vs Q E hr h => ?_)
  · obtain ⟨p, m, rfl, _⟩ := h
    rfl
  · obtain ⟨p, m, rfl, m0, m12, hp, k⟩ := h
    refine ⟨_, pss_cons (ps_set (i := 2) scNa.nd rfl (Or.inr rfl) pe_str) (pss_cons (ps_set (i := 3) scNa.nd rfl (Or.inl rfl) (pe_lst pa_nil))
      (pss_cons (ps_for PassesOwn.never rfl (pi_range1 rfl T.range (pa_cons (pv 1) pa_nil)) (pg_name (i := 4) scNa.nd rfl (Or.inl rfl))
        (pss_cons (ps_setL (i := 5) ["_law_j"] [2, 0] scNa.nd rfl rfl rfl (compSc (osc := (defScope sNames).names) (N := nNa) rfl rfl (by decide +kernel)) (gk_name (by decide))
          (pi_range1 rfl T.range (pa_cons (pe_ix ix_list (pe_lst (pa_cons pe_int (pa_cons pe_int (pa_cons pe_int (pa_cons pe_int pa_nil))))) (pe_call G hr rfl D.mgf D.fn.kp D.b .nil pass0 (pa_cons (pv 0) (pa_cons pe_int pa_nil))) (fun _ _ => rfl)) pa_nil))
          (fun _ _ _ => pg_name (i := 0) (show (["_law_j", "_law_letters", "_law_pot_here"] : List Str).Nodup by decide +kernel) rfl (Or.inl rfl)) (fun _ _ _ => pifs_nil)
          (fun _ _ _ => pe_ix ix_str (pv 1) (pe_call G hr rfl D.mgf D.fn.kp D.b .nil pass0 (pa_cons (pv 2) (pa_cons pe_int pa_nil))) (fun _ _ => rfl)))
        (pss_one (ps_expr (pe_bm PySem.F.plainAttrs_list PySem.F.slot_list_append PySem.F.type_list_append mt_append (pv 3) (pa_cons (pe_op op_add_str (pe_ix ix_str (pv 2) (pv 4) (fun _ _ => rfl)) (pe_bm PySem.F.plainAttrs_str PySem.F.slot_str_join PySem.F.type_str_join mt_join pe_str (pa_cons (pv 5) pa_nil))) pa_nil))))))
      (pss_one (ps_ret (pv 3))))), ?_⟩
    have habc : abc.length ≤ sizeLine := by decide +kernel
    refine ⟨(by decide), fun q hq => ?_⟩
    have npq : p ≠ q := ne_of_none hp.lst.choose_spec hq
    refine ⟨_, rfl, _, rfl, by omega, by omega, ?_⟩
    refine for_range (NaI p q m H) ⟨_, _, [], rfl, hp.upd_ne npq, (But.refl p H).upd_new hq, upd_same, rfl, (fun _ z => nomatch z), .nil⟩ ?_ ?_
    · rintro i σ H2 hlt ⟨v4, v5, ns, rfl, hp2, b2, hq2, hl, hn, hF⟩
      refine ⟨(by show 4 ≤ sizeLine; decide), fun l0 hl0 => ?_⟩
      have npl : p ≠ l0 := ne_of_none hp2.lst.choose_spec hl0
      have nql : q ≠ l0 := ne_of_none hq2 hl0
      refine ⟨_, rfl, p, 4, rfl, hp2.upd_ne npl, by decide, by decide, fun d0 H0 d0a d0b hp0 b0 => ?_⟩
      have b20 : But p H H0 := b2.trans fun c o e n => b0 c o (by rw [L2.upd_ne (ne_of_none e hl0)]; exact e) n
      have hq0 : H0 q = some (.lst (ns.map V.str)) := b0 _ _ (by rw [L2.upd_ne nql]; exact hq2) (Ne.symm npq)
      have hl0' := b0 _ _ upd_same (Ne.symm npl)
      obtain ⟨mm, em, mm0, mm7⟩ : ∃ mm : Int, atI [V.int 0, V.int 0, V.int 1, V.int 7] d0 = some (.int mm) ∧ 0 ≤ mm ∧ mm ≤ 7 := by
        have : d0 = 0 ∨ d0 = 1 ∨ d0 = 2 ∨ d0 = 3 := by omega
        rcases this with rfl | rfl | rfl | rfl
        · exact ⟨0, rfl, by decide, by decide⟩
        · exact ⟨0, rfl, by decide, by decide⟩
        · exact ⟨1, rfl, by decide, by decide⟩
        · exact ⟨7, rfl, by decide, by decide⟩
      refine ⟨l0, _, _, _, rfl, rfl, SqL.of hl0', em, _, rfl, by omega, by omega, ?_⟩
      refine lc_range (fun j ys H3 => Row H3 p ∧ But p H H3 ∧ H3 q = some (.lst (ns.map V.str)) ∧ ∃ cs : List Nat, ys = (cs.map one).map V.str ∧ cs.length = j ∧ ∀ c ∈ cs, (lo c && hi c) = true) ⟨hp0, b20, hq0, [], rfl, rfl, fun _ h => nomatch h⟩ ?_ ?_ ?_
      · rintro j ys H3 hj ⟨_, _, _, cs, rfl, hc, _⟩
        rw [List.length_map, List.length_map, hc]
        exact Nat.le_trans hj (Nat.le_trans (show mm.toNat ≤ 7 by omega) (by decide))
      · rintro j ys H3 R hj ⟨hp3, b3, hq3, cs, rfl, hc, h1⟩ kR
        simp only [tYes, gName, if_true]
        refine ⟨_, rfl, _, rfl, p, 26, rfl, hp3, by decide, by decide, fun d2 H4 d2a d2b hp4 b4 => ?_⟩
        obtain ⟨c, hcc⟩ := lit_ix (z := abc) d2a (by rw [letters26]; exact d2b)
        refine ⟨abc, d2, c, rfl, rfl, habc, hcc, kR _ _ ⟨hp4, b3.trans b4, b4 _ _ hq3 (Ne.symm npq), cs ++ [c], by simp, by simp [hc], fun y hy => ?_⟩⟩
        rcases List.mem_append.mp hy with z | z
        · exact h1 y z
        · rw [List.mem_singleton.mp z]; exact abc_ok c (atI_mem hcc)
      · rintro ys H3 ⟨hp3, b3, hq3, cs, rfl, hc, h1⟩ D0 hD0
        have npD : p ≠ D0 := ne_of_none hp3.lst.choose_spec hD0
        have nqD : q ≠ D0 := ne_of_none hq3 hD0
        have hq4 : (upd H3 D0 (.lst ((cs.map one).map V.str))) q = some (.lst (ns.map V.str)) := by rw [L2.upd_ne nqD]; exact hq3
        have hp4 := hp3.upd_ne (o := .lst ((cs.map one).map V.str)) npD
        have b4 : But p H (upd H3 D0 (.lst ((cs.map one).map V.str))) := fun c o e n => by
          have e3 := b3 c o e n
          rw [L2.upd_ne (ne_of_none e3 hD0)]; exact e3
        have hD4 : (upd H3 D0 (.lst ((cs.map one).map V.str))) D0 = some (.lst ((cs.map one).map V.str)) := upd_same
        generalize upd H3 D0 (.lst ((cs.map one).map V.str)) = H4 at hq4 hp4 b4 hD4 ⊢
        have hc7 : cs.length ≤ 7 := by rw [hc]; omega
        have hi26 : ns.length < 26 := by omega
        have hat := abc_at ns.length hi26
        have e0 : ("" : Str).length = 0 := by decide +kernel
        have hsum : ((cs.map one).map (·.length)).sum + (cs.map one).length * ("" : Str).length ≤ 7 := by rw [sum_ones, e0]; omega
        have hix : atI abc.cps.toList (0 + (i : Int)) = some (97 + ns.length) := by rw [Int.zero_add]; exact atI_nat (by rw [← hl]; exact hat)
        refine ⟨_, rfl, .inl ⟨rfl, _, SqL.of hq4⟩, ?_⟩
        refine ⟨_, rfl, _, rfl, abc, _, _, rfl, rfl, habc, hix, ?_⟩
        refine ⟨rfl, _, rfl, "", D0, cs.map one, rfl, rfl, SqL.of hD4, Nat.le_trans hsum (by decide), ?_⟩
        have ej : (Txt.join "" (cs.map one)).cps.toList = cs := join_ones0
        have lj : (Txt.join "" (cs.map one)).length = cs.length := by show (Txt.join "" (cs.map one)).cps.size = _; rw [← Array.length_toList, ej]
        have ez : ((⟨#[97 + ns.length]⟩ : Str) ++ Txt.join "" (cs.map one)).cps.toList = (97 + ns.length) :: cs := by
          show ((#[97 + ns.length] : Array Nat) ++ (Txt.join "" (cs.map one)).cps).toList = _
          rw [Array.toList_append, ej]; rfl
        have l1 : ((⟨#[97 + ns.length]⟩ : Str)).length = 1 := rfl
        refine ⟨_, _, rfl, rfl, by rw [l1, lj]; exact Nat.le_trans (show 1 + cs.length ≤ 8 by omega) (by decide), ?_⟩
        generalize (⟨#[97 + ns.length]⟩ : Str) ++ Txt.join "" (cs.map one) = z at ez ⊢
        refine ⟨q, _, _, rfl, rfl, hq4, (by rw [List.length_map]; exact small1000 (by omega)), ?_⟩
        have hc0 : (lo (97 + ns.length) && hi (97 + ns.length)) = true := abc_ok _ (List.mem_of_getElem? hat)
        have hz : nm z = true := nm_of ez (by simp) (by simp; omega) fun c hc => by
          rcases List.mem_cons.mp hc with e | e
          · rw [e]; exact hc0
          · exact h1 c e
        refine ⟨_, _, ns ++ [z], rfl, hp4.upd_ne npq, b4.upd_new hq, ?_, by simp [hl], ?_, hF.snoc hat ez⟩
        · rw [upd_same]; simp
        · intro y hy
          rcases List.mem_append.mp hy with h | h
          · exact hn y h
          · rw [List.mem_singleton.mp h]; exact hz
    · rintro σ H2 ⟨v4, v5, ns, rfl, hp2, b2, hq2, hl, hn, hF⟩
      have l12 : ns.length ≤ 12 := by rw [hl]; omega
      exact ⟨_, rfl, k q ns H2 ⟨by rw [hl]; omega, l12, hn, hF.nd (by omega)⟩ (hF.rises (by omega)) hq hq2 hp2 b2⟩
end
end K34

set_option Elab.async false
set_option linter.all false
set_option maxRecDepth 100000
set_option maxHeartbeats 4000000
namespace K34
open PySem PySem.Spec PyProof.Rows L2
theorem erase_perm {α : Type} {us : List α} {k : Nat} {y : α} (h : us[k]? = some y) : (y :: us.eraseIdx k).Perm us := by
  induction us generalizing k with
  | nil => simp at h
  | cons u us ih =>
    cases k with
    | zero => simp at h; subst h; exact .refl _
    | succ k =>
      rw [List.eraseIdx_cons_succ]
      simp at h
      exact (List.Perm.swap _ _ _).trans ((ih h).cons _)
section
variable {P : Program} {w : World} {K : PySem.W.Frag} {mg : Str → Option Value} {base : Heap}
/-! ### in another order -/
def spShuf : Sp := fun vs H Q _ => ∃ (p q : Addr) (xs : List V), vs = [.ref p, .ref q] ∧ Row H p ∧ H q = some (.lst xs) ∧ xs.length < 100 ∧ ∀ (l : Addr) (ys : List V) (H' : Hp), ys.Perm xs → H l = none → H' l = some (.lst ys) → Row H' p → But p H H' → Q (.ref l) H'
abbrev nSh : List Str := ["_law_pot_here", "_law_things", "_law_left", "_law_found"]
theorem scSh : FnScope nSh ["_law_pot_here", "_law_things"] (defScope sShuf) := ⟨rfl, rfl, rfl, by decide +kernel, rfl, by decide +kernel, by decide +kernel⟩
theorem ok_shuf {f fD : Addr} {fd fdD : FuncData} (F : Fun K "_law_shuffled" "_law_shuffled" sShuf f fd) (D : Df K mg "_law_digit" sDigit ["_law_pot_here", "_law_many"] fD fdD) (T : Glb mg) : FnOk P w K mg base CX0 2 f fd ["_law_pot_here", "_law_things"] spShuf := by
  have G : FnOk P w K mg base CX0 1 fD fdD ["_law_pot_here", "_law_many"] spDg := ok_digit D.fn T
  refine F.ok scSh (fun vs H Q E h => ?_) (fun cdv A outer s H vs Q E hr h => ?_)
  · obtain ⟨p, q, xs, rfl, _⟩ := h
    rfl
  · obtain ⟨p, q, xs, rfl, hp, hq, hx, k⟩ := h
    refine ⟨_, pss_cons (ps_set (i := 2) scSh.nd rfl (Or.inl rfl) (pe_callTy call_list_of (by rfl) T.list PyProof.Rows.boot_list (pa_cons (pv 1) pa_nil))) (pss_cons (ps_set (i := 3) scSh.nd rfl (Or.inl rfl) (pe_lst pa_nil))
      (pss_cons (ps_while PassesOwn.never (pt_cmpR (op_ne_nil (low 0 hr)) (pv 2) (pe_lst pa_nil) (nomark _))
        (pss_one (ps_expr (pe_bm PySem.F.plainAttrs_list PySem.F.slot_list_append PySem.F.type_list_append mt_append (pv 3)
          (pa_cons (pe_bm PySem.F.plainAttrs_list PySem.F.slot_list_pop PySem.F.type_list_pop mt_popAt (pv 2) (pa_cons (pe_call G hr rfl D.mgf D.fn.kp D.b .nil pass0 (pa_cons (pv 0) (pa_cons (pe_callB call_len_seq (by rfl) T.len PySem.boot_len (pa_cons (pv 2) pa_nil)) pa_nil))) pa_nil)) pa_nil)))))
      (pss_one (ps_ret (pv 3))))), ?_⟩
    refine ⟨_, rfl, q, _, rfl, .inl (SqL.of hq), fun l hl => ?_⟩
    have npl : p ≠ l := ne_of_none hp.lst.choose_spec hl
    refine ⟨(by decide), fun g hg => ?_⟩
    have npg : p ≠ g := ne_of_none (hp.upd_ne npl).lst.choose_spec hg
    have nlg : l ≠ g := ne_of_none upd_same hg
    have hgH : H g = none := by
      cases e : H g with
      | none => rfl
      | some o => rw [L2.upd_ne (ne_of_none e hl)] at hg; rw [hg] at e; cases e
    refine ⟨fun m σ H2 => ∃ us ys, σ = [some (V.ref p), some (V.ref q), some (V.ref l), some (V.ref g)] ∧ Row H2 p ∧ But p H H2 ∧ H2 l = some (.lst us) ∧ H2 g = some (.lst ys) ∧ (us ++ ys).Perm xs ∧ m = us.length,
      ⟨_, xs, [], rfl, (hp.upd_ne npl).upd_ne npg, ((But.refl p H).upd_new hl).upd_new hgH, by rw [L2.upd_ne nlg]; exact upd_same, upd_same, by rw [List.append_nil], rfl⟩, ?_⟩
    rintro m σ H2 ⟨us, ys, rfl, hp2, b2, hl2, hg2, pm, rfl⟩
    refine ⟨_, rfl, (by decide), fun e he => ?_⟩
    have npe : p ≠ e := ne_of_none hp2.lst.choose_spec he
    have nle : l ≠ e := ne_of_none hl2 he
    have nge : g ≠ e := ne_of_none hg2 he
    have hle : (upd H2 e (.lst [])) l = some (.lst us) := by rw [L2.upd_ne nle]; exact hl2
    have hge : (upd H2 e (.lst [])) g = some (.lst ys) := by rw [L2.upd_ne nge]; exact hg2
    have hpe := hp2.upd_ne (o := .lst []) npe
    have be : But p H (upd H2 e (.lst [])) := fun c o q n => by
      have q2 := b2 c o q n
      rw [L2.upd_ne (ne_of_none q2 he)]; exact q2
    have hee : (upd H2 e (.lst [])) e = some (.lst []) := upd_same
    generalize upd H2 e (.lst []) = H3 at hle hge hpe be hee ⊢
    refine ⟨l, e, us, rfl, rfl, SqL.of hle, SqL.of hee, _, rfl, ?_⟩
    have len : us.length + ys.length = xs.length := by rw [← List.length_append]; exact pm.length_eq
    by_cases hu : us = []
    · simp only [if_true]
      rw [decide_eq_true hu]
      subst hu
      refine iteF ⟨_, rfl, k g ys H3 pm hgH hge hpe be⟩
    · have hpos : 0 < us.length := List.length_pos_iff.mpr hu
      simp only [if_true]
      rw [decide_eq_false hu]
      refine iteT ⟨fun σ' H' => ∃ m', m' < us.length ∧ ∃ us ys, σ' = [some (V.ref p), some (V.ref q), some (V.ref l), some (V.ref g)] ∧ Row H' p ∧ But p H H' ∧ H' l = some (.lst us) ∧ H' g = some (.lst ys) ∧ (us ++ ys).Perm xs ∧ m' = us.length, fun σ' H' q => q, ?_⟩
      refine ⟨_, rfl, .inl ⟨rfl, _, SqL.of hge⟩, ?_⟩
      refine ⟨_, rfl, .inl ⟨rfl, _, SqL.of hle⟩, ?_⟩
      refine ⟨_, rfl, _, rfl, l, _, rfl, .inl (SqL.of hle), p, _, rfl, hpe, by omega, by omega, fun d H4 d0 d1 hp4 b4 => ?_⟩
      have hl4 := b4 _ _ hle (Ne.symm npl)
      have hg4 := b4 _ _ hge (Ne.symm npg)
      obtain ⟨j, rfl⟩ : ∃ j : Nat, d = j := ⟨d.toNat, by omega⟩
      have hj : j < us.length := by omega
      have hy : us[j]? = some us[j] := by simp [hj]
      obtain ⟨j', hs, hy', _⟩ := atI_get (atI_nat hy)
      refine ⟨l, us, j, j', us[j], rfl, rfl, hl4, by omega, by omega, hs, hy', ?_⟩
      have nlg' : g ≠ l := Ne.symm nlg
      refine ⟨g, ys, _, rfl, rfl, by rw [L2.upd_ne nlg']; exact hg4, small1000 (by omega), ?_⟩
      have pe := erase_perm hy'
      have le : (us.eraseIdx j').length + 1 = us.length := by rw [← pe.length_eq]; simp
      refine ⟨_, by omega, us.eraseIdx j', ys ++ [us[j]], rfl, (hp4.upd_ne npl).upd_ne npg, ((be.trans b4).upd_new hl).upd_new hgH, by rw [L2.upd_ne nlg]; exact upd_same, upd_same, ?_, rfl⟩
      refine List.Perm.trans ?_ pm
      rw [← List.append_assoc]
      exact (List.perm_append_singleton _ _).trans ((pe.append_right ys))
end
end K34

set_option Elab.async false
set_option linter.all false
set_option maxRecDepth 100000
set_option maxHeartbeats 4000000
namespace L2
open PySem PySem.Spec PyProof.Rows
/-! ### the order in which a set is walked: drawn -/
section
variable {prog : Program} {w : World} {A : Around} {E : Value → Shared → Prop} {s : Shared}
theorem any_choose {src : Source} {n : Nat} {Q : Nat → Shared → Prop} (hn : n ≠ 0) (h : ∀ i dr, i < n → Q i { s with drawn := dr }) : wpAny (model prog w) A (choose src n) Q E s := fun Γ p _ => by
  show Sem.wp _ Γ (.choose src n .pure) _ _ p s
  rw [Sem.wp_choose]
  exact ⟨hn, h _ _ (Nat.mod_lt _ (Nat.pos_of_ne_zero hn))⟩
theorem erase_perm {α : Type} : ∀ (xs : List α) (i : Nat) (h : i < xs.length), (xs[i] :: xs.eraseIdx i).Perm xs
  | [], _, h => by simp at h
  | x :: xs, 0, _ => .refl _
  | x :: xs, i + 1, h => (List.Perm.swap x (xs[i]'(by simpa using h)) (xs.eraseIdx i)).trans (List.Perm.cons x (erase_perm xs i (by simpa using h)))
theorem draw_order {α : Type} : ∀ (n : Nat) (xs : List α) (s : Shared) (Q : List α → Shared → Prop), xs.length = n → (∀ ys dr, ys.Perm xs → Q ys { s with drawn := dr }) → wpAny (model prog w) A (drawOrder n xs) Q E s
  | 0, xs, s, Q, hl, h => by
    have e : xs = [] := List.eq_nil_of_length_eq_zero hl
    subst e
    exact wpAny_pure (h [] s.drawn .nil)
  | n + 1, [], s, Q, hl, h => by simp at hl
  | n + 1, x :: xs, s, Q, hl, h => by
    unfold drawOrder
    refine wpAny_bind (any_choose (by simp) fun i dr hi => ?_)
    have e : (x :: xs)[i]? = some (x :: xs)[i] := List.getElem?_eq_getElem hi
    rw [e]
    refine wpAny_bind (draw_order n _ _ _ (by rw [List.length_eraseIdx_of_lt hi]; simpa using hl) fun ys dr' hp => ?_)
    refine wpAny_pure (h _ dr' ?_)
    exact (List.Perm.cons _ hp).trans (erase_perm _ i hi)
end
/-! ### what an added text leaves of a table -/
theorem lay_led (t : SetTable) (es : Array (Int × Value)) (h : Int) (x : Value) : (layNew t es h x).2.1.led = t.led := by
  unfold layNew
  split
  · simp only [SetTable.put, SetTable.orStandIn, SetTable.standIn]
    split <;> split <;> rfl
  · rfl
theorem relay_led (t : SetTable) (es : Array (Int × Value)) (n : Nat) : (relayAll t es n).2.1.led = t.led := by
  unfold relayAll
  split
  · rename_i t' order e
    unfold SetTable.relaid SetTable.laid at e
    cases hl : SetTable.layClean (SetTable.sizeAbove n - 1) (es.map (·.1)) with
    | none => rw [hl] at e; cases e
    | some o =>
      rw [hl] at e
      cases e
      dsimp only
      split <;> rfl
  · rfl
theorem relay_plain (t : SetTable) (es : Array (Int × Value)) (n : Nat) (h : t.plain = false) : (relayAll t es n).2.1.plain = false := by
  unfold relayAll
  split
  · rename_i t' order e
    unfold SetTable.relaid SetTable.laid at e
    cases hl : SetTable.layClean (SetTable.sizeAbove n - 1) (es.map (·.1)) with
    | none => rw [hl] at e; cases e
    | some o =>
      rw [hl] at e
      cases e
      dsimp only
      split
      · exact h
      · rfl
  · rfl
end L2

set_option Elab.async false
set_option linter.all false
set_option maxRecDepth 100000
set_option maxHeartbeats 4000000
namespace L2
open PySem PySem.Spec PyProof.Rows
section
variable {prog : Program} {w : World} {A : Around} {E : Value → Shared → Prop} {s : Shared}
/-- a set of texts, with what its walk asks of its table -/
structure SetX (prog : Program) (w : World) (h : Heap) (a : Addr) (zs : List Str) (led : Bool) (o : Obj) (es : Array (Int × Value)) (ep : Nat) (t : SetTable) : Prop where
  ho : h.get? a = some o
  ex : o.ExactSet
  hd : o.data = .set es ep t
  el : ElemsOf (strKind prog w) es.toList
  mem : ∀ k, decide (k ∈ dist zs) = true ↔ ∃ e ∈ es.toList, (strKind prog w).is k e.2 = true
  few : es.size < scanBound
  fits : t.fits es.size = true
  size : es.size = (dist zs).length
  led : t.led = led
  pl : es.size ≠ 0 → t.plain = false
theorem SetX.keep {h h' : Heap} {a : Addr} {zs : List Str} {led : Bool} {o : Obj} {es : Array (Int × Value)} {ep : Nat} {t : SetTable} (x : SetX prog w h a zs led o es ep t) (k : ∀ o, h.get? a = some o → h'.get? a = some o) : SetX prog w h' a zs led o es ep t := { x with ho := k _ x.ho }
theorem gave_way {b : Bool} {Q : Unit → Shared → Prop} (q : Q () s) : wpAny (model prog w) A (match b with | true => rule "set.scan.the-table-gave-way" | false => pure ()) Q E s := by
  cases b
  · exact wpAny_pure q
  · exact wpAny_rule q
/-- one text more -/
theorem SetX.add {a : Addr} {z : Str} {tok : Tok} {zs : List Str} {led : Bool} {o : Obj} {es : Array (Int × Value)} {ep : Nat} {t : SetTable} {Q : Bool → Shared → Prop} (x : SetX prog w s.heap a zs led o es ep t) (room : (dist zs).length + 1 < scanBound)
    (k : ∀ (b : Bool) h' o' es' ep' t', Heap.SameBut a s.heap h' → SetX prog w h' a (zs ++ [z]) led o' es' ep' t' → Q b { s with heap := h' }) :
    wpAny (model prog w) A (setAddHashed a (.str z tok) ((strKind prog w).hash z)) Q E s := by
  have yes : (strKind prog w).is z (.str z tok) = true := by show Value.isStrOf z (.str z tok) = true; simp [Value.isStrOf]
  unfold setAddHashed setAddHashedIn
  refine wpAny_holding (wpAny_bind (wpAny_setState_of x.ho x.hd x.fits ?_))
  dsimp only
  rw [byScan_of (knd := strKind prog w) (x := .str z tok) rfl x.few x.el, if_pos rfl]
  unfold setAddByScan
  refine wpAny_bind (wpAny_bind (wpAny_rule (wpAny_bind (wpAny_setScan_of yes x.ho x.hd x.fits x.el ?_))))
  have isin := x.mem z
  have ed : dist (zs ++ [z]) = addS (dist zs) z := dist_snoc zs z
  cases hr : List.findIdx? (fun e => (strKind prog w).is z e.2) es.toList with
  | some j =>
    dsimp only
    obtain ⟨hj, hpj, _⟩ := List.findIdx?_eq_some_iff_getElem.mp hr
    have hz : z ∈ dist zs := of_decide_eq_true (isin.mpr ⟨_, List.getElem_mem hj, hpj⟩)
    have e2 : dist (zs ++ [z]) = dist zs := by rw [ed]; unfold addS; rw [if_pos hz]
    refine wpAny_pure (wpAny_pure ?_)
    have := k false s.heap o es ep t (Heap.SameBut.refl a s.heap) { x with mem := by rw [e2]; exact x.mem, size := by rw [e2]; exact x.size }
    exact this
  | none =>
    dsimp only
    have hz : z ∉ dist zs := fun q => by
      obtain ⟨e, he, hp⟩ := isin.mp (decide_eq_true q)
      have := List.findIdx?_eq_none_iff.mp hr e he
      rw [hp] at this; cases this
    have perm := layNew_perm t es ((strKind prog w).hash z) (.str z tok)
    have fit := layNew_fits t es ((strKind prog w).hash z) (.str z tok)
    have ld := lay_led t es ((strKind prog w).hash z) (.str z tok)
    generalize layNew t es ((strKind prog w).hash z) (.str z tok) = L at perm fit ld ⊢
    obtain ⟨es1, t1, dummy, gave⟩ := L
    dsimp only at perm fit ld ⊢
    rw [Array.toList_push] at perm
    have el1 : ElemsOf (strKind prog w) es1.toList := (x.el.push yes rfl).perm perm
    have mem1 : ∀ k', decide (k' ∈ dist (zs ++ [z])) = true ↔ ∃ e ∈ es1.toList, (strKind prog w).is k' e.2 = true := fun k' => by
      have := mem_push_iff (knd := strKind prog w) yes x.mem perm k'
      rw [← this, ed, Bool.or_eq_true, decide_eq_true_iff, decide_eq_true_iff, decide_eq_true_iff, mem_addS]
    have sz1 : es1.size = es.size + 1 := by rw [← Array.length_toList, perm.length_eq, List.length_append, Array.length_toList]; rfl
    have few1 : es1.size < scanBound := by rw [sz1, x.size]; exact room
    have size1 : es1.size = (dist (zs ++ [z])).length := by rw [sz1, ed, len_addS, if_neg hz, x.size]
    refine wpAny_bind (gave_way ?_)
    -- the table behind the text: no longer plain
    have tail : ∀ t2 : SetTable, t2.led = led → t2.plain = false → t2.fits es1.size = true → wpAny (model prog w) A (do
        storeSet a es1 t2
        if (!dummy && t2.tooFull) = true then do
            (match (relayAll t2 es1 (SetTable.grown es1.size)).2.2 with | true => rule "set.scan.the-table-gave-way" | false => pure ())
            storeSet a (relayAll t2 es1 (SetTable.grown es1.size)).1 (relayAll t2 es1 (SetTable.grown es1.size)).2.1
            pure (some true)
          else pure (some true)) (fun r s' => wpAny (model prog w) A (match r with | some added => pure added | none => setAddHashedIn a (.str z tok) ((strKind prog w).hash z) 99999) Q E s') E s := fun t2 l2 p2 f2 => by
      refine wpAny_bind (wpAny_storeSet_of x.ho x.hd ?_ (fits_of_scanBound few1))
      obtain ⟨g1, _⟩ := SetOf_store (knd := strKind prog w) (S' := fun k' => decide (k' ∈ dist (zs ++ [z]))) x.ho x.ex x.hd el1 mem1 few1 f2
      have sb1 := Heap.SameBut.update s.heap a (Obj.putSet es1 t2)
      split
      · have rp := relayAll_perm t2 es1 (SetTable.grown es1.size)
        have rf := relayAll_fits t2 es1 (SetTable.grown es1.size)
        have rl := relay_led t2 es1 (SetTable.grown es1.size)
        have rpl := relay_plain t2 es1 (SetTable.grown es1.size) p2
        generalize relayAll t2 es1 (SetTable.grown es1.size) = Rl at rp rf rl rpl ⊢
        obtain ⟨es2, t3, gv⟩ := Rl
        dsimp only at rp rf rl rpl ⊢
        have sz2 : es2.size = es1.size := by rw [← Array.length_toList, rp.length_eq, Array.length_toList]
        refine wpAny_bind (gave_way ?_)
        have mem2 : ∀ k', decide (k' ∈ dist (zs ++ [z])) = true ↔ ∃ e ∈ es2.toList, (strKind prog w).is k' e.2 = true := fun k' => (mem1 k').trans ⟨fun ⟨e, he, q⟩ => ⟨e, rp.mem_iff.mpr he, q⟩, fun ⟨e, he, q⟩ => ⟨e, rp.mem_iff.mp he, q⟩⟩
        have few2 : es2.size < scanBound := by rw [sz2]; exact few1
        refine wpAny_bind (wpAny_storeSet_of (s := { s with heap := s.heap.update a (Obj.putSet es1 t2) }) g1 rfl ?_ (fits_of_scanBound few2))
        obtain ⟨g2, _⟩ := SetOf_store (knd := strKind prog w) (S' := fun k' => decide (k' ∈ dist (zs ++ [z]))) g1 x.ex rfl (el1.perm rp) mem2 few2 rf
        exact wpAny_pure (wpAny_pure (k true _ _ es2 _ t3 (sb1.trans (Heap.SameBut.update _ a _)) ⟨g2, x.ex, rfl, el1.perm rp, mem2, few2, rf, by rw [sz2]; exact size1, by rw [rl]; exact l2, fun _ => rpl⟩))
      · exact wpAny_pure (wpAny_pure (k true _ _ es1 _ t2 sb1 ⟨g1, x.ex, rfl, el1, mem1, few1, f2, size1, l2, fun _ => p2⟩))
    split
    · refine wpAny_bind ?_
      rw [hashByValue_scannable 8 (x := .str z tok) rfl]
      refine wpAny_pure ?_
      rename_i tp
      exact tail { t1 with plain := false } (by show t1.led = led; rw [ld]; exact x.led) rfl (SetTable.fits_plain_off fit)
    · rename_i tp
      refine wpAny_bind (wpAny_pure ?_)
      simp only [↓reduceIte]
      exact tail t1 (by rw [ld]; exact x.led) (by simpa using tp) fit
end
end L2

set_option Elab.async false
set_option linter.all false
set_option maxRecDepth 100000
set_option maxHeartbeats 4000000
namespace L2
open PySem PySem.Spec PyProof.Rows
/-- whether the world walks sets by its text -/
def byTxt (w : World) : Bool := w.params.followText "set-order"
section
variable {prog : Program} {w : World} {A : Around} {E : Value → Shared → Prop} {s : Shared}
/-- set.__new__, and what the new table is led by -/
theorem new_set (a : Value) {Q₁ : Value → Shared → Prop} (h : Q₁ (.ref s.heap.objs.size) { s with heap := s.heap.push { cls := .type "set", dict := none, data := .set #[] 0 (.fresh 0 0 (!byTxt w)) } }) :
    codeAny (model prog w) A (.call (.builtin "set.__new__") ⟨[.type "set", a], []⟩) (wants Q₁ E) s := by
  apply codeAny_of_tree
  show wpAny _ A.in1 (checkBuiltinCall "set.__new__" ⟨[.type "set", a], []⟩ >>= fun _ => again (.builtin "set.__new__" ⟨[.type "set", a], []⟩)) _ _ s
  apply wpAny_bind
  refine wpAny_of_eq (PySem.F.newCall_set_1 a) ?_
  apply wpAny_pure
  refine ⟨plainId_quiet PySem.F.plain_set_new _, codeAny_builtin PySem.F.entry_set_new ?_⟩
  rw [Around.under_plainId PySem.F.plain_set_new _]
  have self := sub_set_self
  obtain ⟨hp, g, d, tk, os⟩ := s
  unfold Builtin.«set.__new__» Builtin.Frozenset.newClass
  dsimp only
  wp_walk
  apply wpAny_askSetting
  apply wpAny_pure
  dsimp only [newObj]
  apply wpAny_bind
  apply wpAny_alloc
  apply wpAny_pure
  exact wpAny_pure h
end
section
variable {prog : Program} {w : World} {A : Around} {I S : Addr} {fp wr : List Addr} {G : Array GenState → Array GenState → Prop} {P : Nat → Value → Prop} {St : Nat → Shared → Prop} {zs : List Str} {R : Result → Shared → Prop} {led : Bool}
/-- a set of texts -/
def TxtX (prog : Program) (w : World) (h : Heap) (S : Addr) (zs : List Str) (led : Bool) : Prop := ∃ o es ep t, SetX prog w h S zs led o es ep t
theorem TxtX.keep {h h' : Heap} (x : TxtX prog w h S zs led) (k : ∀ o, h.get? S = some o → h'.get? S = some o) : TxtX prog w h' S zs led := let ⟨o, es, ep, t, q⟩ := x; ⟨o, es, ep, t, q.keep k⟩
theorem texts_inX (W : WalksS prog w A.in1 I fp wr G zs.length P St) (off : S ∉ fp) (hz : ∀ i v, P i v → ∃ z t, zs[i]? = some z ∧ v = .str z t) (small : zs.length + 1 < scanBound) :
    ∀ (left i : Nat) (s : Shared), i + left = zs.length → St i s → TxtX prog w s.heap S (zs.take i) led →
      (∀ s', Moved (S :: wr) G s s' → TxtX prog w s'.heap S zs led → R (.ok (.ret .none)) s') → codeAny (model prog w) A (.builtin "set.update.loop" ⟨[.ref S, .ref I], []⟩) R s
  | 0, i, s, hi, st, x, k => by
    have e : zs.take i = zs := List.take_of_length_le (by omega)
    rw [show i = zs.length by omega] at st
    refine codeAny_builtin F.entry_set_update_loop ?_
    rw [Around.under_plainId F.plain_set_update_loop _]
    apply wpAny_bind
    refine W.done s _ _ st fun s' m => ?_
    exact wpAny_pure (k s' (m.mono fun b hb => List.mem_cons_of_mem _ hb) (by rw [e] at x; exact x.keep fun o ho => m.heap S o (fun hs => off (W.sub _ hs)) ho))
  | left + 1, i, s, hi, st, x, k => by
    refine codeAny_builtin F.entry_set_update_loop ?_
    rw [Around.under_plainId F.plain_set_update_loop _]
    apply wpAny_bind
    refine W.item i s _ _ (by omega) st fun v s1 p st1 m => ?_
    obtain ⟨z, t, ez, rfl⟩ := hz i v p
    obtain ⟨o, es, ep, tb, x1⟩ := x.keep fun o ho => m.heap S o (fun hs => off (W.sub _ hs)) ho
    have et : zs.take (i + 1) = zs.take i ++ [z] := by rw [List.take_add_one, ez]; rfl
    have yes : (strKind prog w).is z (.str z t) = true := by show Value.isStrOf z (.str z t) = true; simp [Value.isStrOf]
    show wpAny _ A.in1 (holding [Value.str z t] (setAdd S (.str z t)) >>= _) _ _ s1
    apply wpAny_bind; apply wpAny_holding
    show wpAny _ A.in1 (holding _ _) _ _ _
    apply wpAny_holding; apply wpAny_bind
    refine (strKind prog w).pyHash yes ?_
    have few := dist_le (zs.take i)
    rw [List.length_take] at few
    refine SetX.add (s := { s1 with toks := s1.toks + 1 }) x1 (by omega) fun _ h2 o2 es2 ep2 t2 sb x2 => ?_
    refine wpAny_pure ⟨plainId_quiet F.plain_set_update_loop _, texts_inX W off hz small left (i + 1) _ (by omega) ?_ ⟨o2, es2, ep2, t2, by rw [et]; exact x2⟩ fun s3 m3 x3 => ?_⟩
    · exact W.frame _ s1 _ _ st1 (Nat.le_succ _) fun b hb o e => (sb.2 b fun z' => off (z' ▸ hb)).trans e
    · refine k s3 (Moved.trans W.gtrans ((m.mono fun b hb => List.mem_cons_of_mem _ hb).then_heap (Nat.le_succ _) fun b o hb e => ?_) m3) x3
      exact (sb.2 b fun z' => hb (by rw [z']; exact List.mem_cons_self)).trans e
end
end L2

set_option Elab.async false
set_option linter.all false
set_option maxRecDepth 100000
set_option maxHeartbeats 4000000
namespace L2
open PySem PySem.Spec PyProof.Rows
theorem sub_tup_set : isSubtype (.type "tuple") (.type "set") = pure false := by rw [isSubtype_type]; kernel_rfl
theorem sub_tup_frozen : isSubtype (.type "tuple") (.type "frozenset") = pure false := by rw [isSubtype_type]; kernel_rfl
section
variable {prog : Program} {w : World} {A : Around} {E : Value → Shared → Prop} {s : Shared}
/-- set(list of texts) -/
theorem setX_list {l : Addr} {its : List Value} {zs : List Str} {Q : Value → Shared → Prop} (hh : A.handled = none) (hl : s.heap.IsList l its.toArray) (hz : StrsAre its zs) (small : zs.length + 1 < scanBound)
    (h : ∀ (h' : Heap) (tk : Nat), TxtX prog w h' s.heap.objs.size zs (!byTxt w) → (∀ b o, s.heap.get? b = some o → h'.get? b = some o) → Q (.ref s.heap.objs.size) { s with heap := h', toks := tk }) :
    wpAny (model prog w) A (call (.type "set") [.ref l]) Q E s := by
  refine made_by PySem.F.called_set (PySem.F.typeCall_set_1 _) (new_set (.ref l) ?_)
  generalize hh1 : s.heap.push { cls := .type "set", dict := none, data := .set #[] 0 (.fresh 0 0 (!byTxt w)) } = h1
  have kp : ∀ b o, s.heap.get? b = some o → h1.get? b = some o := fun b o e => by rw [← hh1]; exact Heap.get?_push_of_some _ e
  have sz : h1.objs.size = s.heap.objs.size + 1 := by rw [← hh1]; exact Heap.size_push ..
  have new : h1.get? s.heap.objs.size = some { cls := .type "set", dict := none, data := .set #[] 0 (.fresh 0 0 (!byTxt w)) } := by rw [← hh1]; exact Heap.get?_push_size _ rfl
  have ty : ({ s with heap := h1 } : Shared).TypeIs (.ref s.heap.objs.size) "set" := ⟨_, new, rfl⟩
  refine ⟨ty, codeAny_call_builtin PySem.F.called_set.init.plain PySem.F.entry_set_init (check_set_init_1 ty ?_)⟩
  have el : its.length = zs.length := strs_len hz
  obtain ⟨⟨c, d, dt, sl⟩, ho, rfl, n, rfl⟩ := hl
  have ho1 := kp _ _ ho
  have lt : @LT.lt Nat _ l s.heap.objs.size := Heap.lt_size ho
  have il : h1.IsList l its.toArray := ⟨_, ho1, rfl, n, rfl⟩
  have n1 := PySem.F.sub_list_set
  have n2 := PySem.F.sub_list_frozenset
  have n3 : (Value.type "list" == Value.type "dict") = false := by decide
  unfold Builtin.«set.__init__» noKeywords Builtin.Frozenset.updateFrom
  generalize pi : pyIter = it
  wp_walk
  subst pi
  apply wpAny_pyIter_list il
  apply wpAny_bind; apply wpAny_runValue
  have W := (Walks.list (prog := prog) (w := w) (A := A.in1.in1.in1) (by simpa using hh) h1.objs.size l (by rw [sz]; exact Nat.ne_of_lt (Nat.lt_succ_of_lt lt)) its.toArray).toS
  have e0 : its.toArray.size = zs.length := by rw [List.size_toArray]; exact el
  rw [e0] at W
  refine texts_inX (led := !byTxt w) (zs := zs) W ?_ (fun i v p => ?_) small zs.length 0 _ (Nat.zero_add _) ⟨⟨_, Heap.get?_push_size _ rfl, rfl, rfl⟩, il.push _⟩ ?_ fun t m x => ?_
  · rw [sz]
    intro q
    rcases List.mem_cons.mp q with q | q
    · exact absurd q (Nat.ne_of_lt (Nat.lt_succ_self _))
    · exact absurd (List.mem_singleton.mp q) (Nat.ne_of_gt lt)
  · have p' : its[i]? = some v := by simpa using p
    exact strs_at hz p'
  · exact ⟨_, #[], 0, _, Heap.get?_push_of_some _ new, ⟨rfl, rfl, rfl⟩, rfl, fun e he => by simp at he, fun k => by simp [dist], by decide, by rfl, rfl, rfl, fun q => absurd rfl q⟩
  · obtain ⟨h2, g2, d2, t2, o2⟩ := t
    cases (show g2 = s.gens from m.gens)
    cases (show d2 = s.drawn from m.drawn)
    cases (show o2 = s.os from m.os)
    apply wpAny_pure
    refine wpAny_pure ⟨rfl, h h2 t2 x fun b o e => m.heap b o ?_ (Heap.get?_push_of_some _ (kp b o e))⟩
    have lb : @LT.lt Nat _ b s.heap.objs.size := Heap.lt_size e
    rw [sz]
    intro q
    rcases List.mem_cons.mp q with q | q
    · exact absurd q (Nat.ne_of_lt lb)
    · exact absurd (List.mem_singleton.mp q) (Nat.ne_of_lt (Nat.lt_succ_of_lt lb))
/-- set(tuple of texts) -/
theorem setX_tuple {l : Addr} {its : List Value} {zs : List Str} {Q : Value → Shared → Prop} (hh : A.handled = none) (hl : s.heap.IsTuple l its.toArray) (hz : StrsAre its zs) (small : zs.length + 1 < scanBound)
    (h : ∀ (h' : Heap) (tk : Nat), TxtX prog w h' s.heap.objs.size zs (!byTxt w) → (∀ b o, s.heap.get? b = some o → h'.get? b = some o) → Q (.ref s.heap.objs.size) { s with heap := h', toks := tk }) :
    wpAny (model prog w) A (call (.type "set") [.ref l]) Q E s := by
  refine made_by PySem.F.called_set (PySem.F.typeCall_set_1 _) (new_set (.ref l) ?_)
  generalize hh1 : s.heap.push { cls := .type "set", dict := none, data := .set #[] 0 (.fresh 0 0 (!byTxt w)) } = h1
  have kp : ∀ b o, s.heap.get? b = some o → h1.get? b = some o := fun b o e => by rw [← hh1]; exact Heap.get?_push_of_some _ e
  have sz : h1.objs.size = s.heap.objs.size + 1 := by rw [← hh1]; exact Heap.size_push ..
  have new : h1.get? s.heap.objs.size = some { cls := .type "set", dict := none, data := .set #[] 0 (.fresh 0 0 (!byTxt w)) } := by rw [← hh1]; exact Heap.get?_push_size _ rfl
  have ty : ({ s with heap := h1 } : Shared).TypeIs (.ref s.heap.objs.size) "set" := ⟨_, new, rfl⟩
  refine ⟨ty, codeAny_call_builtin PySem.F.called_set.init.plain PySem.F.entry_set_init (check_set_init_1 ty ?_)⟩
  have el : its.length = zs.length := strs_len hz
  obtain ⟨⟨c, d, dt, sl⟩, ho, rfl, n, rfl⟩ := hl
  have ho1 := kp _ _ ho
  have lt : @LT.lt Nat _ l s.heap.objs.size := Heap.lt_size ho
  have il : h1.IsTuple l its.toArray := ⟨_, ho1, rfl, n, rfl⟩
  have n1 := sub_tup_set
  have n2 := sub_tup_frozen
  have n3 : (Value.type "tuple" == Value.type "dict") = false := by decide
  unfold Builtin.«set.__init__» noKeywords Builtin.Frozenset.updateFrom
  generalize pi : pyIter = it
  wp_walk
  subst pi
  apply wpAny_pyIter_tuple il
  apply wpAny_bind; apply wpAny_runValue
  have W := (Walks.tuple (prog := prog) (w := w) (A := A.in1.in1.in1) (by simpa using hh) h1.objs.size l (by rw [sz]; exact Nat.ne_of_lt (Nat.lt_succ_of_lt lt)) its.toArray).toS
  have e0 : its.toArray.size = zs.length := by rw [List.size_toArray]; exact el
  rw [e0] at W
  refine texts_inX (led := !byTxt w) (zs := zs) W ?_ (fun i v p => ?_) small zs.length 0 _ (Nat.zero_add _) ⟨⟨_, Heap.get?_push_size _ rfl, rfl, rfl⟩, il.push _⟩ ?_ fun t m x => ?_
  · rw [sz]
    intro q
    rcases List.mem_cons.mp q with q | q
    · exact absurd q (Nat.ne_of_lt (Nat.lt_succ_self _))
    · exact absurd (List.mem_singleton.mp q) (Nat.ne_of_gt lt)
  · have p' : its[i]? = some v := by simpa using p
    exact strs_at hz p'
  · exact ⟨_, #[], 0, _, Heap.get?_push_of_some _ new, ⟨rfl, rfl, rfl⟩, rfl, fun e he => by simp at he, fun k => by simp [dist], by decide, by rfl, rfl, rfl, fun q => absurd rfl q⟩
  · obtain ⟨h2, g2, d2, t2, o2⟩ := t
    cases (show g2 = s.gens from m.gens)
    cases (show d2 = s.drawn from m.drawn)
    cases (show o2 = s.os from m.os)
    apply wpAny_pure
    refine wpAny_pure ⟨rfl, h h2 t2 x fun b o e => m.heap b o ?_ (Heap.get?_push_of_some _ (kp b o e))⟩
    have lb : @LT.lt Nat _ b s.heap.objs.size := Heap.lt_size e
    rw [sz]
    intro q
    rcases List.mem_cons.mp q with q | q
    · exact absurd q (Nat.ne_of_lt lb)
    · exact absurd (List.mem_singleton.mp q) (Nat.ne_of_lt (Nat.lt_succ_of_lt lb))
end
end L2

set_option Elab.async false
set_option linter.all false
set_option maxRecDepth 100000
set_option maxHeartbeats 4000000
namespace L2
open PySem PySem.Spec PyProof.Rows
/-! ### walking a set -/
theorem entry_set_iter : entryFor table "set.__iter__" = some Builtin.«frozenset.__iter__» :=
  entryFor_alias (id' := "frozenset.__iter__") (by kernel_rfl) rfl (by decide +kernel) (by kernel_rfl)
theorem slot_si_next : Slot "set_iterator" "__next__" "set_iterator.__next__" :=
  .of (owner := "set_iterator") (n := "__next__") (by rw [typeLookup_type, builtinLookup_eq_fast]; kernel_rfl) (by decide +kernel) (by decide +kernel) (by decide +kernel)
    (by first | exact .inl (by decide +kernel) | exact .inr (by decide +kernel)) (by rw [isSubtype_type]; kernel_rfl)
theorem entry_si_next : entryFor table "set_iterator.__next__" = some Builtin.«set_iterator.__next__» := entryFor_of_tree (by kernel_rfl)
theorem args_si_next (a : Value) : argsOk "set_iterator.__next__" ⟨[a], []⟩ := by unfold argsOk; kernel_rfl
theorem slot_si_iter : Slot "set_iterator" "__iter__" "set_iterator.__iter__" :=
  .of (owner := "set_iterator") (n := "__iter__") (by rw [typeLookup_type, builtinLookup_eq_fast]; kernel_rfl) (by decide +kernel) (by decide +kernel) (by decide +kernel)
    (by first | exact .inl (by decide +kernel) | exact .inr (by decide +kernel)) (by rw [isSubtype_type]; kernel_rfl)
theorem entry_si_iter : entryFor table "set_iterator.__iter__" = some Builtin.«dict_keyiterator.__iter__» :=
  entryFor_alias (id' := "dict_keyiterator.__iter__") (by kernel_rfl) rfl (by decide +kernel) (by kernel_rfl)
theorem args_si_iter (a : Value) : argsOk "set_iterator.__iter__" ⟨[a], []⟩ := by unfold argsOk; kernel_rfl
/-- a set, and what its walk asks of its table -/
structure SetW (w : World) (h : Heap) (a : Addr) (es : Array (Int × Value)) (ep : Nat) (t : SetTable) : Prop where
  ho : ∃ o, h.get? a = some o ∧ o.ExactSet ∧ o.data = .set es ep t
  fits : t.fits es.size = true
  led : t.led = !byTxt w
  pl : 1 < es.size → t.plain = false
theorem SetW.keep {w : World} {h h' : Heap} {a : Addr} {es : Array (Int × Value)} {ep : Nat} {t : SetTable} (x : SetW w h a es ep t) (k : ∀ o, h.get? a = some o → h'.get? a = some o) : SetW w h' a es ep t :=
  let ⟨o, ho, r⟩ := x.ho; { x with ho := ⟨o, k o ho, r⟩ }
theorem SetW.typeIs {w : World} {s : Shared} {a : Addr} {es : Array (Int × Value)} {ep : Nat} {t : SetTable} (x : SetW w s.heap a es ep t) : s.TypeIs (.ref a) "set" := let ⟨o, ho, e, _⟩ := x.ho; ⟨o, ho, e.1⟩
/-! the order by the world's text -/
theorem pick_go {α : Type} (next : Nat → Nat) : ∀ (n k : Nat) (left : List α) (out : Array α), left.length = n → (pickOrder.go next n k left out).toList.Perm (out.toList ++ left)
  | 0, k, left, out, h => by
    have e : left = [] := List.eq_nil_of_length_eq_zero h
    subst e; simp [pickOrder.go]
  | n + 1, k, left, out, h => by
    have lt : next k % left.length < left.length := Nat.mod_lt _ (by omega)
    unfold pickOrder.go
    rw [List.getElem?_eq_getElem lt]
    dsimp only
    refine (pick_go next n (k + 1) _ _ (by rw [List.length_eraseIdx_of_lt lt]; omega)).trans ?_
    rw [Array.toList_push, List.append_assoc]
    exact List.Perm.append_left _ (erase_perm left _ lt)
theorem pick_perm {α : Type} (next : Nat → Nat) (xs : Array α) : (pickOrder next xs).toList.Perm xs.toList := by
  have h := pick_go next xs.size 0 xs.toList #[] (by simp)
  simpa [pickOrder] using h
/-- the iterator over the set at S -/
def SIter (h : Heap) (I S : Addr) (first : Value) (i n ep : Nat) : Prop :=
  ∃ o, h.get? I = some o ∧ o.cls = .type "set_iterator" ∧ o.data = .fields #[first, .int i 0, .ref S, .int n 0, .int ep 0]
theorem SIter.typeIs {s : Shared} {I S : Addr} {f : Value} {i n ep : Nat} (x : SIter s.heap I S f i n ep) : s.TypeIs (.ref I) "set_iterator" := let ⟨o, ho, e, _⟩ := x; ⟨o, ho, e⟩
theorem SIter.keep {h h' : Heap} {I S : Addr} {f : Value} {i n ep : Nat} (x : SIter h I S f i n ep) (k : ∀ o, h.get? I = some o → h'.get? I = some o) : SIter h' I S f i n ep := let ⟨o, ho, r⟩ := x; ⟨o, k o ho, r⟩
section
variable {prog : Program} {w : World} {A : Around} {E : Value → Shared → Prop} {s : Shared}
theorem any_byText {Q : Bool → Shared → Prop} (h : Q (byTxt w) s) : wpAny (model prog w) A setsByText Q E s := by
  unfold setsByText
  apply wpAny_bind
  apply wpAny_askSetting
  exact wpAny_pure h
theorem si_stop {I : Addr} {o : Obj} {vs : Array Value} {Q : Option Value → Shared → Prop} (hh : A.handled = none) (ho : s.heap.get? I = some o) (hd : o.data = .fields vs) (h2 : 2 < vs.size)
    (hQ : ∀ h', Heap.ExtBut I s.heap h' → Q none { s with heap := h' }) :
    wpAny (model prog w) A.in1 (setField (.ref I) 2 .none >>= fun _ => newExc (.type "StopIteration") [] >>= fun e => raiseNew (α := Fin) e)
    (fun fin s' => ∃ v, fin = Fin.done (Flow.ret v) ∧ wpAny (model prog w) A (pure (some v)) Q E s')
    (fun e s' => wpAny (model prog w) A (do
          let __do_lift ← isInstance e (Value.type "StopIteration")
          if __do_lift = true then pure none else throw e) Q E s') s := by
  refine wpAny_bind (wpAny_setField ho hd h2 ?_)
  show wpAny _ _ (newExc (.type "StopIteration") [] >>= _) _ _ _
  refine wpAny_bind ?_
  simp only [newExc, newTuple]
  refine wpAny_bind (wpAny_newObj_type ?_ (by size_fits))
  refine wpAny_bind (m := firstArgMember _ _) (wpAny_of_eq (a := Value.none) (by first | rfl | (simp only [firstArgMember]; rfl)) ?_)
  refine wpAny_newObj_type ?_ (by size_fits)
  simp only [raiseNew]
  refine wpAny_bind (wpAny_handled ?_)
  rw [show A.in1.handled = none from hh]
  refine wpAny_bind (wpAny_pure (wpAny_throw ?_))
  refine wpAny_bind (wpAny_isInstance (T := "StopIteration") (b := true) ⟨_, Heap.get?_push_size _ rfl, rfl⟩ isSubtype_stop ?_)
  exact wpAny_pure (hQ _ (((Heap.SameBut.update ..).extBut.push _).push _))
/-- the next of a set that is walked by places -/
theorem si_next_int {I S : Addr} {sl i ep : Nat} {es : Array (Int × Value)} {t : SetTable} {Q : Option Value → Shared → Prop} (hh : A.handled = none) (hit : SIter s.heap I S (.int sl 0) i es.size ep) (x : SetW w s.heap S es ep t) (r : Option (Value × Nat))
    (hn : ∀ (Q' : Option (Value × Nat) → Shared → Prop) E', Q' r s → wpAny (model prog w) A.in1 (setNext S sl i ep) Q' E' s)
    (h1 : ∀ v nx h', r = some (v, nx) → SIter h' I S (.int nx 0) (i + 1) es.size ep → Heap.SameBut I s.heap h' → Q (some v) { s with heap := h' })
    (h2 : r = none → ∀ h', Heap.ExtBut I s.heap h' → Q none { s with heap := h' }) : wpAny (model prog w) A (pyNext (.ref I)) Q E s := by
  obtain ⟨o, ho, hc, hd⟩ := id hit
  obtain ⟨os, hos, hes, hds⟩ := x.ho
  unfold pyNext
  refine wpAny_bind (wpAny_attempt (wpAny_callSpecial?_slot (name := Str.ofString "__next__") hit.typeIs slot_si_next
    (wpAny_call_entry slot_si_next hit.typeIs entry_si_next ?_ (args_si_next _))))
  unfold Builtin.«set_iterator.__next__»
  refine wpAny_bind (wpAny_pure ?_)
  refine wpAny_bind (wpAny_fieldsOf ho hd ?_)
  dsimp only
  refine wpAny_bind (wpAny_setEntries_of hos hds x.fits ?_)
  rw [if_neg (by simp)]
  simp only [Int.toNat_natCast]
  refine wpAny_bind (hn _ _ ?_)
  cases r with
  | none => exact si_stop hh ho hd (by simp) (h2 rfl)
  | some p =>
    obtain ⟨v, nx⟩ := p
    dsimp only
    refine wpAny_bind (wpAny_setField ho hd (by simp) ?_)
    have ho1 := Heap.get?_update_self (Obj.mapFields (·.setIfInBounds 0 (rawInt nx))) ho (Obj.isFreed_of_fields (Obj.data_mapFields hd _))
    have hd1 := Obj.data_mapFields hd (·.setIfInBounds 0 (rawInt nx))
    refine wpAny_bind (wpAny_setField (s := { s with heap := _ }) ho1 hd1 (by simp) ?_)
    refine wpAny_pure ⟨_, rfl, wpAny_pure (h1 v nx _ rfl ⟨_, Heap.get?_update_self _ ho1 (Obj.isFreed_of_fields (Obj.data_mapFields hd1 _)), ((Obj.cls_mapFields ..).trans (Obj.cls_mapFields ..)).trans hc, ?_⟩ ((Heap.SameBut.update ..).trans (Heap.SameBut.update ..)))⟩
    rw [Obj.data_mapFields hd1]; simp [rawInt]
/-- .. in a drawn order -/
theorem si_next_ref {I S T : Addr} {i ep : Nat} {es : Array (Int × Value)} {t : SetTable} {ord : List Nat} {Q : Option Value → Shared → Prop} (hh : A.handled = none) (hit : SIter s.heap I S (.ref T) i es.size ep) (x : SetW w s.heap S es ep t)
    (ht : s.heap.get? T = some { cls := .type "tuple", data := .seq (ord.map fun (k : Nat) => rawInt k).toArray }) (le : ∀ k ∈ ord, k < es.size)
    (h1 : ∀ k v h', ord[i]? = some k → es[k]?.map (·.2) = some v → SIter h' I S (.ref T) (i + 1) es.size ep → Heap.SameBut I s.heap h' → Q (some v) { s with heap := h' })
    (h2 : ord[i]? = none → ∀ h', Heap.ExtBut I s.heap h' → Q none { s with heap := h' }) : wpAny (model prog w) A (pyNext (.ref I)) Q E s := by
  obtain ⟨o, ho, hc, hd⟩ := id hit
  obtain ⟨os, hos, hes, hds⟩ := x.ho
  unfold pyNext
  refine wpAny_bind (wpAny_attempt (wpAny_callSpecial?_slot (name := Str.ofString "__next__") hit.typeIs slot_si_next
    (wpAny_call_entry slot_si_next hit.typeIs entry_si_next ?_ (args_si_next _))))
  unfold Builtin.«set_iterator.__next__»
  refine wpAny_bind (wpAny_pure ?_)
  refine wpAny_bind (wpAny_fieldsOf ho hd ?_)
  dsimp only
  refine wpAny_bind (wpAny_setEntries_of hos hds x.fits ?_)
  rw [if_neg (by simp)]
  simp only [Int.toNat_natCast]
  have nx : (List.map (fun (k : Nat) => rawInt k) ord).toArray[i]? = Option.map (fun k : Nat => rawInt (k : Int)) ord[i]? := by rw [List.getElem?_toArray, List.getElem?_map]
  refine wpAny_bind ?_
  unfold seqItems?
  refine wpAny_bind (wpAny_load ht (wpAny_pure ?_))
  dsimp only
  rw [nx]
  cases hk : ord[i]? with
  | none =>
    rw [Option.map_none]
    dsimp only
    refine wpAny_bind (wpAny_setField ho hd (by simp) ?_)
    have ho1 := Heap.get?_update_self (Obj.mapFields (·.setIfInBounds 0 (rawInt 0))) ho (Obj.isFreed_of_fields (Obj.data_mapFields hd _))
    have hd1 := Obj.data_mapFields hd (·.setIfInBounds 0 (rawInt 0))
    exact si_stop (s := { s with heap := _ }) hh ho1 hd1 (by simp) fun h' e => h2 hk h' fun b o' hb q => e b o' hb ((Heap.SameBut.update ..).extBut b o' hb q)
  | some k =>
    have lt := le k (List.mem_of_getElem? hk)
    dsimp only [Option.map_some, rawInt]
    refine wpAny_bind ?_
    unfold setNextDrawn
    refine wpAny_bind (wpAny_setState_of hos hds x.fits ?_)
    dsimp only
    rw [if_neg (by simp), Int.toNat_natCast, Array.getElem?_eq_getElem lt]
    refine wpAny_pure ?_
    refine wpAny_bind (wpAny_setField ho hd (by simp) ?_)
    refine wpAny_pure ⟨_, rfl, wpAny_pure (h1 k _ _ hk (by rw [Array.getElem?_eq_getElem lt]; rfl) ⟨_, Heap.get?_update_self _ ho (Obj.isFreed_of_fields (Obj.data_mapFields hd _)), (Obj.cls_mapFields ..).trans hc, ?_⟩ (Heap.SameBut.update ..))⟩
    rw [Obj.data_mapFields hd]; simp [rawInt]
/-! the three roads -/
theorem next_text {S : Addr} {sl i ep : Nat} {es : Array (Int × Value)} {t : SetTable} (x : SetW w s.heap S es ep t) (hb : byTxt w = true) (Q' : Option (Value × Nat) → Shared → Prop) (E' : Value → Shared → Prop)
    (h : Q' (((pickOrder (w.params.setOrder S ep) es)[i]?).map fun e => (e.2, sl)) s) : wpAny (model prog w) A (setNext S sl i ep) Q' E' s := by
  obtain ⟨os, hos, hes, hds⟩ := x.ho
  unfold setNext
  refine wpAny_bind (wpAny_setState_of hos hds x.fits ?_)
  dsimp only
  refine wpAny_bind (any_byText ?_)
  rw [if_pos hb, if_neg (by simp)]
  refine wpAny_bind ?_
  unfold setWalk
  refine wpAny_bind (wpAny_setState_of hos hds x.fits ?_)
  dsimp only
  refine wpAny_bind (any_byText ?_)
  rw [if_pos hb]
  refine wpAny_bind (wpAny_askSetting ?_)
  exact wpAny_pure (wpAny_pure h)
theorem next_few {S : Addr} {sl i ep : Nat} {es : Array (Int × Value)} {t : SetTable} (x : SetW w s.heap S es ep t) (hb : byTxt w = false) (few : ¬ 1 < es.size) (Q' : Option (Value × Nat) → Shared → Prop) (E' : Value → Shared → Prop)
    (h : Q' (match es[SetTable.below t.place sl]?, t.place[SetTable.below t.place sl]? with | some (_, x), some j => some (x, j + 1) | _, _ => none) s) : wpAny (model prog w) A (setNext S sl i ep) Q' E' s := by
  obtain ⟨os, hos, hes, hds⟩ := x.ho
  have ld : t.led = true := by rw [x.led, hb]; rfl
  unfold setNext
  refine wpAny_bind (wpAny_setState_of hos hds x.fits ?_)
  dsimp only
  refine wpAny_bind (any_byText ?_)
  rw [hb, if_neg Bool.false_ne_true]
  rw [if_neg (by show ¬ ((!t.plain && decide (es.size > 1)) = true); simp [few])]
  refine wpAny_bind ?_
  show wpAny _ _ (if (!t.led && !es.isEmpty) = true then (unsupported "set:maker-not-led" : Sem Unit) else pure ()) _ _ _
  rw [if_neg (by rw [ld]; simp)]
  exact wpAny_pure (wpAny_pure h)
theorem si_self {I S : Addr} {f : Value} {i n ep : Nat} {Q : Value → Shared → Prop} (hit : SIter s.heap I S f i n ep) (h : Q (.ref I) s) : wpAny (model prog w) A (pyIter (.ref I)) Q E s := by
  refine wpAny_pyIter_slot hit.typeIs slot_si_iter (wpAny_call_entry slot_si_iter hit.typeIs entry_si_iter ?_ (args_si_iter _))
  show wpAny _ _ (ret (.ref I)) _ _ s
  exact wpAny_pure ⟨_, rfl, "set_iterator", _, hit.typeIs, slot_si_next.lookup, h⟩
/-- by places that are looked up -/
theorem walk_int {S I T : Addr} {es : Array (Int × Value)} {ep : Nat} {t : SetTable} {ys : List Value} {sl : Nat → Nat} (hIS : S ≠ I) (len : ys.length = es.size)
    (nx : ∀ (A : Around) (s : Shared) (i : Nat) (Q' : Option (Value × Nat) → Shared → Prop) (E' : Value → Shared → Prop), i ≤ es.size → SetW w s.heap S es ep t → Q' ((ys[i]?).map fun v => (v, sl (i + 1))) s → wpAny (model prog w) A (setNext S (sl i) i ep) Q' E' s)
    (A : Around) (hh : A.handled = none) : WalksS prog w A I [I, S, T] [I] (fun a b => b = a) es.size (fun i v => ys[i]? = some v) (fun i s => SIter s.heap I S (.int (sl i) 0) i es.size ep ∧ SetW w s.heap S es ep t) where
  sub := fun b hb => by simp at hb; simp [hb]
  grefl := fun _ => rfl
  gtrans := fun _ _ _ h1 h2 => h2.trans h1
  frame := fun i s h' tk st _ hk => ⟨st.1.keep fun o e => hk I (by simp) o e, st.2.keep fun o e => hk S (by simp) o e⟩
  item := fun i s Q E hi st hQ => by
    have lt : i < ys.length := by omega
    have e : ys[i]? = some ys[i] := List.getElem?_eq_getElem lt
    refine si_next_int hh st.1 st.2 (some (ys[i], sl (i + 1))) (fun Q' E' q => nx _ s i Q' E' (by omega) st.2 (by rw [e]; exact q)) (fun v n h' r hit' hs => ?_) fun r => nomatch r
    cases r
    exact hQ _ _ e ⟨hit', st.2.keep fun o q => hs.extBut S o hIS q⟩ ⟨fun b o hb q => hs.extBut b o (fun z => hb (by simp [z])) q, rfl, rfl, rfl, Nat.le_refl _⟩
  done := fun s Q E st hQ => by
    have e : ys[es.size]? = none := List.getElem?_eq_none (by omega)
    refine si_next_int hh st.1 st.2 none (fun Q' E' q => nx _ s _ Q' E' (Nat.le_refl _) st.2 (by rw [e]; exact q)) (fun v n h' r _ _ => nomatch r) fun _ h' he => ?_
    exact hQ _ ⟨fun b o hb q => he b o (fun z => hb (by simp [z])) q, rfl, rfl, rfl, Nat.le_refl _⟩
  self := fun i s Q E st hQ => si_self st.1 hQ
/-- by places that were drawn -/
theorem walk_ref {S I T : Addr} {es : Array (Int × Value)} {ep : Nat} {t : SetTable} {ord : List Nat} (hIS : S ≠ I) (hIT : T ≠ I) (len : ord.length = es.size) (le : ∀ k ∈ ord, k < es.size)
    (A : Around) (hh : A.handled = none) : WalksS prog w A I [I, S, T] [I] (fun a b => b = a) es.size (fun i v => (ord.map fun k => (es[k]?.map (·.2)).getD .none)[i]? = some v)
      (fun i s => SIter s.heap I S (.ref T) i es.size ep ∧ SetW w s.heap S es ep t ∧ s.heap.get? T = some { cls := .type "tuple", data := .seq (ord.map fun (k : Nat) => rawInt k).toArray }) where
  sub := fun b hb => by simp at hb; simp [hb]
  grefl := fun _ => rfl
  gtrans := fun _ _ _ h1 h2 => h2.trans h1
  frame := fun i s h' tk st _ hk => ⟨st.1.keep fun o e => hk I (by simp) o e, st.2.1.keep fun o e => hk S (by simp) o e, hk T (by simp) _ st.2.2⟩
  item := fun i s Q E hi st hQ => by
    refine si_next_ref hh st.1 st.2.1 st.2.2 le (fun k v h' hk hv hit' hs => ?_) fun r => ?_
    · refine hQ _ _ (by rw [List.getElem?_map, hk]; simp [hv]) ⟨hit', st.2.1.keep fun o q => hs.extBut S o hIS q, hs.extBut T _ hIT st.2.2⟩ ⟨fun b o hb q => hs.extBut b o (fun z => hb (by simp [z])) q, rfl, rfl, rfl, Nat.le_refl _⟩
    · exact absurd (List.getElem?_eq_none_iff.mp r) (by omega)
  done := fun s Q E st hQ => by
    refine si_next_ref hh st.1 st.2.1 st.2.2 le (fun k v h' hk _ _ _ => ?_) fun _ h' he => ?_
    · exact absurd hk (by rw [List.getElem?_eq_none (by omega)]; simp)
    · exact hQ _ ⟨fun b o hb q => he b o (fun z => hb (by simp [z])) q, rfl, rfl, rfl, Nat.le_refl _⟩
  self := fun i s Q E st hQ => si_self st.1 hQ
theorem below_one_0 (p : Nat) : SetTable.below #[p] 0 = 0 := by simp [SetTable.below, SetTable.below.go]
theorem below_one_1 (p : Nat) : SetTable.below #[p] (p + 1) = 1 := by simp [SetTable.below, SetTable.below.go]
theorem arr_one {α : Type} (xs : Array α) (h : xs.size = 1) : ∃ e, xs = #[e] := by
  obtain ⟨l⟩ := xs
  match l, h with
  | [e], _ => exact ⟨e, rfl⟩
/-- the walk over a set, in whatever order -/
theorem set_iter {S : Addr} {es : Array (Int × Value)} {ep : Nat} {t : SetTable} {Q : Value → Shared → Prop} (x : SetW w s.heap S es ep t) (small : es.size ≤ sizeLine)
    (h : ∀ (I T : Addr) (ys : List Value) (St : Nat → Shared → Prop) (h' : Heap) (dr : Drawn), ys.Perm (es.toList.map (·.2)) → @LE.le Nat _ s.heap.objs.size I → (T = S ∨ @LE.le Nat _ s.heap.objs.size T) → (∀ b o, s.heap.get? b = some o → h'.get? b = some o) →
      @LT.lt Nat _ I h'.objs.size → @LT.lt Nat _ T h'.objs.size →
      (∀ A : Around, A.handled = none → WalksS prog w A I [I, S, T] [I] (fun a b => b = a) es.size (fun i v => ys[i]? = some v) St) → (∀ i s', St i s' → s'.TypeIs (.ref I) "set_iterator") → St 0 { s with heap := h', drawn := dr } → Q (.ref I) { s with heap := h', drawn := dr }) :
    wpAny (model prog w) A (pyIter (.ref S)) Q E s := by
  obtain ⟨os, hos, hes, hds⟩ := x.ho
  have ltS : @LT.lt Nat _ S s.heap.objs.size := Heap.lt_size hos
  refine wpAny_pyIter_slot x.typeIs PySem.F.slot_set_iter (wpAny_call_entry PySem.F.slot_set_iter x.typeIs entry_set_iter ?_ (PySem.F.args_set_iter_1 _))
  unfold Builtin.«frozenset.__iter__» Builtin.Frozenset.slot0 slotArgs
  simp only [List.isEmpty_nil, Bool.not_true, Bool.false_eq_true, ↓reduceIte, bind_assoc, List.length_nil, bne_self_eq_false]
  unfold Builtin.Frozenset.addrOf Builtin.Frozenset.sizeOf
  refine wpAny_bind (wpAny_pure ?_)
  dsimp only
  refine wpAny_bind (wpAny_pure ?_)
  refine wpAny_bind (wpAny_bind (wpAny_setEntries_of hos hds x.fits (wpAny_pure ?_)))
  refine wpAny_bind ?_
  unfold setDrawn
  refine wpAny_bind (wpAny_setState_of hos hds x.fits ?_)
  dsimp only
  refine wpAny_bind (any_byText ?_)
  refine wpAny_pure ?_
  show wpAny _ _ (if (!byTxt w && (!t.plain && decide (es.size > 1))) = true then _ else _) _ _ _
  -- an iterator that is led by places
  have plainRoad : ∀ (ys : List Value) (sl : Nat → Nat), sl 0 = 0 → ys.Perm (es.toList.map (·.2)) → (∀ (A : Around) (s : Shared) (i : Nat) (Q' : Option (Value × Nat) → Shared → Prop) (E' : Value → Shared → Prop), i ≤ es.size → SetW w s.heap S es ep t → Q' ((ys[i]?).map fun v => (v, sl (i + 1))) s → wpAny (model prog w) A (setNext S (sl i) i ep) Q' E' s) →
      wpAny (model prog w) A.in1 (do
          let first ← pure (rawInt 0)
          let __do_lift ← setEpoch S
          let __do_lift ← newFields "set_iterator" [first, rawInt 0, Value.ref S, rawInt es.size, rawInt __do_lift]
          ret __do_lift) (fun fin s' => ∃ v, fin = Fin.done (Flow.ret v) ∧ ∃ T' r, s'.TypeIs v T' ∧ typeLookup (Value.type T') (Str.ofString "__next__") = pure (some r) ∧ Q v s') E s := fun ys sl s0 hp nx => by
    have len : ys.length = es.size := by rw [hp.length_eq]; simp
    refine wpAny_bind (wpAny_pure (wpAny_bind (wpAny_setEpoch_of hos hds x.fits ?_)))
    refine wpAny_bind (wpAny_newObj_type (wpAny_pure ⟨_, rfl, "set_iterator", _, ⟨_, Heap.get?_push_size _ rfl, rfl⟩, slot_si_next.lookup, ?_⟩))
    have sz : (s.heap.push { cls := .type "set_iterator", data := .fields #[rawInt 0, rawInt 0, Value.ref S, rawInt es.size, rawInt ep] }).objs.size = s.heap.objs.size + 1 := Heap.size_push ..
    refine h s.heap.objs.size S ys _ _ s.drawn hp (Nat.le_refl _) (.inl rfl) (fun b o e => Heap.get?_push_of_some _ e) (by rw [sz]; exact Nat.lt_succ_self _) (by rw [sz]; exact Nat.lt_succ_of_lt ltS)
      (fun A hh => walk_int (t := t) (ep := ep) (sl := sl) (Nat.ne_of_lt ltS) len nx A hh) (fun i s' st => st.1.typeIs) ⟨⟨_, Heap.get?_push_size _ rfl, rfl, by rw [s0]; simp [rawInt]⟩, x.keep fun o e => Heap.get?_push_of_some _ e⟩
  cases hb : byTxt w with
  | true =>
    rw [if_neg (by simp)]
    refine plainRoad ((pickOrder (w.params.setOrder S ep) es).toList.map (·.2)) (fun _ => 0) rfl ((pick_perm _ es).map _) fun A s i Q' E' _ x' q => next_text x' hb Q' E' ?_
    rw [List.getElem?_map, Array.getElem?_toList, Option.map_map] at q
    exact q
  | false =>
    by_cases many : 1 < es.size
    · rw [if_pos (by rw [x.pl many]; simp [many])]
      refine wpAny_bind (draw_order es.size _ _ _ (by simp) fun ord dr hp => ?_)
      have lo : ord.length = es.size := by rw [hp.length_eq]; simp
      have le : ∀ k ∈ ord, k < es.size := fun k hk => by simpa using hp.mem_iff.mp hk
      refine wpAny_bind (wpAny_newTuple ?_ (by rw [List.length_map, lo]; exact small))
      generalize hh1 : s.heap.push { cls := .type "tuple", data := .seq (ord.map fun (k : Nat) => rawInt k).toArray } = h1
      have kp : ∀ b o, s.heap.get? b = some o → h1.get? b = some o := fun b o e => by rw [← hh1]; exact Heap.get?_push_of_some _ e
      have sz : h1.objs.size = s.heap.objs.size + 1 := by rw [← hh1]; exact Heap.size_push ..
      have new : h1.get? s.heap.objs.size = some { cls := .type "tuple", data := .seq (ord.map fun (k : Nat) => rawInt k).toArray } := by rw [← hh1]; exact Heap.get?_push_size _ rfl
      refine wpAny_bind (wpAny_setEpoch_of (s := { s with heap := h1, drawn := dr }) (kp _ _ hos) hds x.fits ?_)
      refine wpAny_bind (wpAny_newObj_type (wpAny_pure ⟨_, rfl, "set_iterator", _, ⟨_, Heap.get?_push_size _ rfl, rfl⟩, slot_si_next.lookup, ?_⟩))
      have sz2 : (h1.push { cls := .type "set_iterator", data := .fields #[Value.ref s.heap.objs.size, rawInt 0, Value.ref S, rawInt es.size, rawInt ep] }).objs.size = h1.objs.size + 1 := Heap.size_push ..
      refine h h1.objs.size s.heap.objs.size _ _ _ dr ?_ (by rw [sz]; exact Nat.le_succ _) (.inr (Nat.le_refl _)) (fun b o e => Heap.get?_push_of_some _ (kp b o e)) (by rw [sz2]; exact Nat.lt_succ_self _) (by rw [sz2, sz]; exact Nat.lt_succ_of_lt (Nat.lt_succ_self _))
        (fun A hh => walk_ref (t := t) (ep := ep) (ord := ord) (by rw [sz]; exact Nat.ne_of_lt (Nat.lt_succ_of_lt ltS)) (by rw [sz]; exact Nat.ne_of_lt (Nat.lt_succ_self _)) lo le A hh) (fun i s' st => st.1.typeIs) ⟨⟨_, Heap.get?_push_size _ rfl, rfl, by simp [rawInt]⟩, x.keep fun o e => Heap.get?_push_of_some _ (kp _ _ e), Heap.get?_push_of_some _ new⟩
      refine (hp.map _).trans (.of_eq ?_)
      refine List.ext_getElem? fun j => ?_
      rw [List.getElem?_map, List.getElem?_map]
      by_cases hj : j < es.size
      · have e1 : (List.range es.size)[j]? = some j := List.getElem?_range hj
        have e2 : es.toList[j]? = some es[j] := by simp [hj]
        rw [e1, e2]; simp [hj]
      · have e1 : (List.range es.size)[j]? = none := List.getElem?_eq_none (by simp; omega)
        have e2 : es.toList[j]? = none := List.getElem?_eq_none (by simp; omega)
        rw [e1, e2]; rfl
    · rw [if_neg (by simp [many])]
      have fz : t.place.size = es.size := by
        have := x.fits
        unfold SetTable.fits at this
        simp at this; exact this.1
      refine plainRoad (es.toList.map (·.2)) (fun i => if i = 0 then 0 else t.place.getD 0 0 + 1) rfl (.refl _) fun A s i Q' E' hi x' q => next_few x' hb many Q' E' ?_
      have e0 : es.size = 0 ∨ es.size = 1 := by omega
      rcases e0 with e0 | e0
      · have e1 : i = 0 := by omega
        subst e1
        have ee : es = #[] := Array.eq_empty_of_size_eq_zero e0
        subst ee
        simpa using q
      · obtain ⟨e, rfl⟩ : ∃ e, es = #[e] := arr_one es e0
        obtain ⟨p, hp⟩ : ∃ p, t.place = #[p] := arr_one t.place (by rw [fz]; rfl)
        rw [hp]
        have hi' : i = 0 ∨ i = 1 := by simp at hi; omega
        rcases hi' with rfl | rfl
        · rw [if_pos rfl, below_one_0]
          simpa [hp] using q
        · rw [if_neg (by decide)]
          have : SetTable.below #[p] ((#[p] : Array Nat).getD 0 0 + 1) = 1 := below_one_1 p
          rw [this]
          simpa using q
end
end L2

set_option Elab.async false
set_option linter.all false
set_option maxRecDepth 100000
set_option maxHeartbeats 4000000
namespace L2
open PySem PySem.Spec PyProof.Rows
section
variable {prog : Program} {w : World} {A : Around} {E : Value → Shared → Prop} {s : Shared}
theorem hint_set {r : Addr} {Q : Bool → Shared → Prop} (hT : s.TypeIs (.ref r) "set") (h : Q false s) : wpAny (model prog w) A (Builtin.List.listLengthHint (.ref r)) Q E s := by
  unfold Builtin.List.listLengthHint
  refine wpAny_bind (wpAny_specialOf hT PySem.F.slot_set_len.lookup ?_)
  generalize hid : ("set.__len__" : String) = id0
  wp_delta
  rw [show splitId id0 = some ("set", "__len__") from by subst hid; decide +kernel]
  subst hid
  refine wpAny_bind (wpAny_isInstance (T := "set") (b := true) hT (by rw [isSubtype_type]; kernel_rfl) ?_)
  refine wpAny_ite_split (fun hab => absurd hab (by decide)) (fun _ => ?_)
  refine wpAny_ite_split (fun _ => ?_) (fun hab => absurd (by decide +kernel) hab)
  refine wpAny_bind (wpAny_typeOf hT ?_)
  exact wpAny_pure h
/-- a list is filled with what a set has -/
theorem extend_set {S L : Addr} {es : Array (Int × Value)} {ep : Nat} {t : SetTable} {R : Result → Shared → Prop} (x : SetW w s.heap S es ep t) (small : es.size ≤ sizeLine) (hh : A.handled = none) (hSL : L ≠ S) (res : Value) (c₀ : Nat) (hL : s.heap.get? L = some { cls := .type "list", data := .seq #[] c₀ })
    (hR : ∀ h' tk dr acc' c', (∀ b o, b ≠ L → s.heap.get? b = some o → h'.get? b = some o) → h'.get? L = some { cls := .type "list", dict := none, data := .seq acc' c', slots := #[] } → acc'.toList.Perm (es.toList.map (·.2)) → R (.ok (.ret res)) { s with heap := h', toks := tk, drawn := dr }) :
    wpAny (model prog w) A.in1 (Builtin.List.listExtendWith (.ref L) (.ref S) res)
      (fun fin s' => match fin with | .done f => R (.ok f) s' | .again c' => c'.quiet = true ∧ codeAny (model prog w) A c' R s') (fun e s' => R (.error e) s') s := by
  have ltL : @LT.lt Nat _ L s.heap.objs.size := Heap.lt_size hL
  unfold Builtin.List.listExtendWith
  refine wpAny_bind (wpAny_typeOf (T := "set") x.typeIs ?_)
  have h1 : Builtin.List.listSameRef (.ref L) (.ref S) = false := by simp [Builtin.List.listSameRef, hSL]
  have n1 : (Value.type "set" == Value.type "list") = false := by decide
  have n2 : (Value.type "set" == Value.type "tuple") = false := by decide
  simp only [h1, n1, n2, Bool.or_false, Bool.false_eq_true, if_false]
  refine wpAny_bind (set_iter x small fun I T ys St h' dr hp hI hT kp ltI ltT W ty st => ?_)
  have hLf : L ∉ [I, S, T] := by
    simp only [List.mem_cons, List.not_mem_nil, or_false, not_or]
    refine ⟨Nat.ne_of_lt (Nat.lt_of_lt_of_le ltL hI), hSL, ?_⟩
    rcases hT with hT | hT
    · rw [hT]; exact hSL
    · exact Nat.ne_of_lt (Nat.lt_of_lt_of_le ltL hT)
  have W1 := W A.in1 (by simpa using hh)
  have len : ys.length = es.size := by rw [hp.length_eq]; simp
  have key : ∀ (h : Heap) (c₁ tk : Nat), St 0 { s with heap := h, toks := tk, drawn := dr } → (∀ b o, b ≠ L → s.heap.get? b = some o → h.get? b = some o) →
      h.get? L = some { cls := .type "list", data := .seq #[] c₁ } → codeAny (model prog w) A (.builtin "list.extend.loop" ⟨[.ref L, .ref I, res], []⟩) R { s with heap := h, toks := tk, drawn := dr } := by
    intro h c₁ tk hst hk hL₁
    refine codeAny_extend_loopS W1 small L hLf res es.size 0 _ #[] c₁ rfl (Nat.zero_le _) hst hL₁ (ItemsOf.nil _) fun s' acc' c' hm hL' hacc => ?_
    obtain ⟨h2, g2, d2, t2, o2⟩ := s'
    cases (show g2 = s.gens from hm.gens)
    cases (show d2 = dr from hm.drawn)
    cases (show o2 = s.os from hm.os)
    refine hR h2 t2 dr acc' c' (fun b o hb e => hm.heap b o (fun hmem => ?_) (hk b o hb e)) hL' ?_
    · rcases List.mem_cons.mp hmem with e' | hmem
      · exact hb e'
      · exact absurd (Heap.lt_size e) (by rw [List.mem_singleton.mp hmem]; exact Nat.not_lt.mpr hI)
    · have e : acc'.toList = ys := by
        refine List.ext_getElem? fun j => ?_
        by_cases hj : j < es.size
        · have l1 : j < acc'.size := by rw [hacc.1]; exact hj
          have e1 : acc'[j]? = some acc'[j] := by simp [l1]
          rw [hacc.2 j _ e1, Array.getElem?_toList]; exact e1
        · rw [List.getElem?_eq_none (by rw [Array.length_toList, hacc.1]; omega), List.getElem?_eq_none (by omega)]
      rw [e]; exact hp
  have hL₁ := kp _ _ hL
  have x1 := x.keep fun o e => kp _ _ e
  refine wpAny_bind (wpAny_holding (hint_set (s := { s with heap := h', drawn := dr }) x1.typeIs ?_))
  refine wpAny_ite_split (fun _ => ?_) (fun _ => wpAny_pure ⟨plainId_quiet PySem.F.plain_extend_loop _, key _ c₀ _ st (fun b o _ e => kp b o e) hL₁⟩)
  refine wpAny_bind (wpAny_rule ?_)
  refine wpAny_bind ?_
  show wpAny _ _ (updateSeq L (·.push .none) >>= fun _ => updateSeq L (·.pop)) _ _ _
  refine wpAny_bind (wpAny_updateSeq hL₁ rfl ?_)
  have hL₂ := Heap.get?_update_self (Obj.mapSeq (·.push Value.none)) hL₁ rfl
  refine wpAny_updateSeq (hz := by seq_fits) hL₂ rfl ?_
  have hL₃ := Heap.get?_update_self (Obj.mapSeq (·.pop)) hL₂ rfl
  refine wpAny_pure ⟨plainId_quiet PySem.F.plain_extend_loop _, key _ _ _ ?_ (fun b o hb e => ?_) hL₃⟩
  · refine W1.frame 0 _ _ _ st (Nat.le_refl _) fun b hb o e => ?_
    have hbL : b ≠ L := fun h => hLf (h ▸ hb)
    exact (Heap.get?_update_other _ _ (Ne.symm hbL)).trans ((Heap.get?_update_other _ _ (Ne.symm hbL)).trans e)
  · exact (Heap.get?_update_other _ _ (Ne.symm hb)).trans ((Heap.get?_update_other _ _ (Ne.symm hb)).trans (kp _ _ e))
theorem collect_set {S : Addr} {es : Array (Int × Value)} {ep : Nat} {t : SetTable} {R : List Value → Shared → Prop} (x : SetW w s.heap S es ep t) (small : es.size ≤ sizeLine) (hh : A.handled = none)
    (h : ∀ (h' : Heap) (tk : Nat) (dr : Drawn) (acc : List Value), (∀ b o, s.heap.get? b = some o → h'.get? b = some o) → acc.Perm (es.toList.map (·.2)) → R acc { s with heap := h', toks := tk, drawn := dr }) :
    wpAny (model prog w) A (collect (.ref S)) R E s := by
  obtain ⟨os, hos, _⟩ := x.ho
  have ltS : @LT.lt Nat _ S s.heap.objs.size := Heap.lt_size hos
  unfold collect
  refine wpAny_bind (wpAny_runValue (codeAny_builtin PySem.F.entry_proto_collect ?_))
  rw [Around.under_plainId PySem.F.plain_proto_collect _]
  show wpAny _ A.in1 (newList [] >>= fun l => again (.builtin "list.__iadd__" ⟨[l, .ref S], []⟩)) _ _ s
  refine wpAny_bind (wpAny_newObj_type ?_)
  refine wpAny_pure ⟨plainId_quiet PySem.F.plain_list_iadd _, codeAny_builtin PySem.F.entry_list_iadd ?_⟩
  rw [Around.under_plainId PySem.F.plain_list_iadd _]
  have hL : (s.heap.push { cls := .type "list", data := .seq ([] : List Value).toArray }).get? s.heap.objs.size = some { cls := .type "list", data := .seq #[] } := Heap.get?_push_size _ rfl
  show wpAny _ A.in1 (Builtin.List.listExtendWith (.ref s.heap.objs.size) (.ref S) (.ref s.heap.objs.size)) _ _ _
  have key := extend_set (prog := prog) (w := w) (A := A) (s := { s with heap := s.heap.push { cls := .type "list", data := .seq ([] : List Value).toArray } })
    (R := fun (q : Result) (s' : Shared) => ∃ (h' : Heap) (tk : Nat) (dr : Drawn) (acc' : Array Value) (c' : Nat), q = .ok (.ret (.ref s.heap.objs.size)) ∧ s' = { s with heap := h', toks := tk, drawn := dr } ∧
      (∀ b o, s.heap.get? b = some o → h'.get? b = some o) ∧ h'.get? s.heap.objs.size = some { cls := .type "list", dict := none, data := .seq acc' c', slots := #[] } ∧ acc'.toList.Perm (es.toList.map (·.2)))
    (x.keep fun o e => Heap.get?_push_of_some _ e) small hh (Nat.ne_of_gt ltS) (.ref s.heap.objs.size) 0 hL
    (fun h' tk dr acc' c' hk hL' hacc => ⟨h', tk, dr, acc', c', rfl, rfl, fun b o e => hk b o (Nat.ne_of_lt (Heap.lt_size e)) (Heap.get?_push_of_some _ e), hL', hacc⟩)
  refine wpAny_mono key (fun fin s' x => ?_) fun e s' x => ?_
  · cases fin with
    | done f =>
      obtain ⟨h', tk, dr, acc', c', e, rfl, hk, hL', hacc⟩ := x
      cases e
      show wpAny _ A (load s.heap.objs.size >>= _) _ _ _
      refine wpAny_bind (wpAny_load hL' ?_)
      exact wpAny_pure (h h' tk dr acc'.toList hk hacc)
    | again c₁ =>
      refine ⟨x.1, codeAny_mono x.2 fun q s₂ y => ?_⟩
      obtain ⟨h', tk, dr, acc', c', rfl, rfl, hk, hL', hacc⟩ := y
      show wpAny _ A (load s.heap.objs.size >>= _) _ _ _
      refine wpAny_bind (wpAny_load hL' ?_)
      exact wpAny_pure (h h' tk dr acc'.toList hk hacc)
  · obtain ⟨_, _, _, _, _, e', _⟩ := x
    cases e'
theorem SetX.setW {a : Addr} {h : Heap} {zs : List Str} {o : Obj} {es : Array (Int × Value)} {ep : Nat} {t : SetTable} (x : SetX prog w h a zs (!byTxt w) o es ep t) : SetW w h a es ep t :=
  ⟨⟨o, x.ho, x.ex, x.hd⟩, x.fits, x.led, fun q => x.pl (by omega)⟩
end
end L2

set_option Elab.async false
set_option linter.all false
set_option maxRecDepth 100000
set_option maxHeartbeats 4000000
namespace L2
open PySem PySem.Spec PyProof.Rows
/-! ### sorted(set(texts)) -/
theorem perm_of_sub {α : Type} [DecidableEq α] : ∀ {l m : List α}, l.Nodup → (∀ x ∈ l, x ∈ m) → m.length ≤ l.length → l.Perm m
  | [], m, _, _, h => by
    have : m = [] := List.eq_nil_of_length_eq_zero (by simpa using h)
    rw [this]
  | x :: l, m, nd, sub, h => by
    have nd' := List.nodup_cons.mp nd
    have hx := sub x List.mem_cons_self
    have p := List.perm_cons_erase hx
    refine (List.Perm.cons x (perm_of_sub nd'.2 (fun y hy => ?_) ?_)).trans p.symm
    · have := p.mem_iff.mp (sub y (List.mem_cons_of_mem _ hy))
      rcases List.mem_cons.mp this with e | e
      · exact absurd (e ▸ hy) nd'.1
      · exact e
    · have := List.length_erase_of_mem hx
      simp at h; omega
theorem addS_nd {σ : List Str} {z : Str} (h : σ.Nodup) : (addS σ z).Nodup := by
  unfold addS
  split
  · exact h
  · rename_i q; exact List.nodup_cons.mpr ⟨q, h⟩
theorem dist_nodup (zs : List Str) : (dist zs).Nodup := by
  unfold dist
  have : ∀ (zs σ : List Str), σ.Nodup → (zs.foldl addS σ).Nodup := by
    intro zs
    induction zs with
    | nil => intro σ h; exact h
    | cons z zs ih => intro σ h; exact ih _ (addS_nd h)
  exact this zs [] .nil
theorem mem_dist {zs : List Str} {k : Str} : k ∈ dist zs ↔ k ∈ zs := by
  unfold dist
  have : ∀ (zs σ : List Str), k ∈ zs.foldl addS σ ↔ k ∈ σ ∨ k ∈ zs := by
    intro zs
    induction zs with
    | nil => intro σ; simp
    | cons z zs ih => intro σ; rw [List.foldl_cons, ih, mem_addS, List.mem_cons]; exact ⟨fun h => by rcases h with (h | h) | h <;> simp [h], fun h => by rcases h with h | h | h <;> simp [h]⟩
  simpa using this zs []
theorem vals_str : ∀ (us : List Value), (∀ u ∈ us, ∃ z t, u = .str z t) → ∃ zs, StrsAre us zs
  | [], _ => ⟨[], .nil⟩
  | u :: us, h => by
    obtain ⟨z, t, rfl⟩ := h u List.mem_cons_self
    obtain ⟨zs, q⟩ := vals_str us fun v hv => h v (List.mem_cons_of_mem _ hv)
    exact ⟨z :: zs, .cons z t q⟩
theorem strs_mem : ∀ {us : List Value} {zs : List Str} {z : Str}, StrsAre us zs → (z ∈ zs ↔ ∃ u ∈ us, Value.isStrOf z u = true) := by
  intro us zs z h
  induction h with
  | nil => simp
  | cons y t _ ih =>
    rw [List.mem_cons, ih]
    constructor
    · rintro (rfl | ⟨u, hu, q⟩)
      · exact ⟨_, List.mem_cons_self, by simp [Value.isStrOf]⟩
      · exact ⟨u, List.mem_cons_of_mem _ hu, q⟩
    · rintro ⟨u, hu, q⟩
      rcases List.mem_cons.mp hu with rfl | hu
      · obtain ⟨t', e⟩ := Value.isStrOf_shape q
        cases e; exact .inl rfl
      · exact .inr ⟨u, hu, q⟩
theorem strs_perm : ∀ {us vs : List Value}, us.Perm vs → ∀ {zs : List Str}, StrsAre us zs → ∃ ys, StrsAre vs ys ∧ zs.Perm ys := by
  intro us vs p
  induction p with
  | nil => intro zs h; exact ⟨zs, h, .refl _⟩
  | cons x _ ih => intro zs h; cases h with | cons z t h => obtain ⟨ys, q, r⟩ := ih h; exact ⟨z :: ys, .cons z t q, .cons z r⟩
  | swap x y l => intro zs h; cases h with | cons z t h => cases h with | cons z' t' h => exact ⟨_, .cons z' t' (.cons z t h), .swap _ _ _⟩
  | trans _ _ ih1 ih2 => intro zs h; obtain ⟨ys, q, r⟩ := ih1 h; obtain ⟨ws, q', r'⟩ := ih2 q; exact ⟨ws, q', r.trans r'⟩
section
variable {prog : Program} {w : World}
/-- the members of a set of texts, in any order -/
theorem SetX.vals {a : Addr} {h : Heap} {zs : List Str} {led : Bool} {o : Obj} {es : Array (Int × Value)} {ep : Nat} {t : SetTable} (x : SetX prog w h a zs led o es ep t) {acc : List Value} (p : acc.Perm (es.toList.map (·.2))) : ∃ ys, StrsAre acc ys ∧ ys.Perm (dist zs) := by
  obtain ⟨ks, hk⟩ := vals_str (es.toList.map (·.2)) fun u hu => by
    obtain ⟨e, he, rfl⟩ := List.mem_map.mp hu
    obtain ⟨⟨k, hk, _⟩, _⟩ := x.el e he
    obtain ⟨t, q⟩ := Value.isStrOf_shape (x := k) (v := e.2) hk
    exact ⟨k, t, q⟩
  obtain ⟨ys, hy, q⟩ := strs_perm p.symm hk
  refine ⟨ys, hy, q.symm.trans (perm_of_sub (dist_nodup zs) (fun z hz => ?_) ?_).symm⟩
  · obtain ⟨e, he, r⟩ := (x.mem z).mp (decide_eq_true hz)
    exact (strs_mem hk).mpr ⟨e.2, List.mem_map.mpr ⟨e, he, rfl⟩, r⟩
  · have := strs_len hk
    rw [List.length_map, Array.length_toList, x.size] at this
    omega
end
theorem srt_perm_eq {xs ys : List Str} (p : xs.Perm ys) : srt xs = srt ys := srt_of ((srt_perm xs).trans p) (srt_pw xs)
/-- a tracked set of texts -/
def TxtO (P : Program) (w : World) (a : Addr) (zs : List Str) : HO := .ext fun h => TxtX P w h a zs (!byTxt w)
theorem Inv.drawn {X : Cx} {pins : List (Addr × Obj)} {σ : St} {H : Hp} {s : Shared} {dr : Drawn} (I : Inv X pins σ H s) : Inv X pins σ H { s with drawn := dr } :=
  ⟨I.ok, I.os, I.bare, I.base, I.loc, I.cell, I.free, I.freeC, I.pin, I.hok, I.len⟩
section
variable {X : Cx}
theorem txtO_ok {H : Hp} {h : Heap} {a : Addr} {zs : List Str} (x : TxtX X.prog X.w h a zs (!byTxt X.w)) : ObjOk X.prog X.w H h a (TxtO X.prog X.w a zs) := by
  refine ⟨x, ?_, fun h1 h2 q k => q.keep fun o e => k o e⟩
  obtain ⟨o, es, ep, t, y⟩ := x
  exact ⟨o, y.ho⟩
theorem call_set_txt (hc : X.calm = true) : CallR X (.type "set") (fun xs H Q => ∃ (p : Addr) (zs : List Str), xs = [.ref p] ∧ (SqL X.K H p (zs.map V.str) ∨ SqT X.K H p (zs.map V.str)) ∧ zs.length + 1 < scanBound ∧ ∀ l, H l = none → Q (.ref l) (upd H l (TxtO X.prog X.w l zs))) := by
  intro pins s σ H xs us Q I r h
  obtain ⟨p, zs, rfl, hp, small, q⟩ := h
  obtain ⟨u, rfl, rx⟩ := vals1 r
  cases rx
  have fr : H s.heap.objs.size = none := I.hok.fresh (Nat.le_refl _)
  have fin : ∀ (h' : Heap) (tk : Nat), TxtX X.prog X.w h' s.heap.objs.size zs (!byTxt X.w) → (∀ b o, s.heap.get? b = some o → h'.get? b = some o) → EP X pins σ Q (.ref s.heap.objs.size) { s with heap := h', toks := tk } := fun h' tk T kp =>
    ⟨.ref s.heap.objs.size, _, I.laid (t' := tk) kp (Nat.le_refl _) (txtO_ok T), rfl, q _ fr⟩
  rcases hp with hp | hp
  · obtain ⟨its, rv, pl, _⟩ := I.list hp
    exact setX_list (I.ok.hd hc) pl.isList (strs_of rv) small fin
  · obtain ⟨its, rv, pl, _⟩ := I.tuple hp
    exact setX_tuple (I.ok.hd hc) pl (strs_of rv) small fin
theorem call_sorted_set (hc : X.calm = true) : CallR X (.builtin "sorted") (fun xs H Q => ∃ (p : Addr) (zs : List Str), xs = [.ref p] ∧ H p = some (TxtO X.prog X.w p zs) ∧ zs.length < 64 ∧ ∀ l, H l = none → Q (.ref l) (upd H l (.lst ((srt (dist zs)).map V.str)))) := by
  intro pins s σ H xs us Q I r h
  obtain ⟨p, zs, rfl, hp, few, q⟩ := h
  obtain ⟨u, rfl, rx⟩ := vals1 r
  cases rx
  obtain ⟨⟨o, es, ep, t, x⟩, _⟩ := I.hok _ _ hp
  have few' : (dist zs).length < 64 := Nat.lt_of_le_of_lt (dist_le zs) few
  refine Calls.call_function_entry kind_sorted plain_sorted entry_sorted (args_sorted1 _) ?_
  unfold Builtin.«sorted»
  apply wpAny_bind (m := checkCount "sorted" 1 1 _)
  apply wpAny_pure
  apply wpAny_bind
  refine collect_set (A := X.A.in1) x.setW (by rw [x.size]; exact Nat.le_trans (Nat.le_of_lt few') (by decide)) (by exact I.ok.hd hc) fun h1 tk dr acc keep pm => ?_
  obtain ⟨ys, txt, py⟩ := x.vals pm
  have la : acc.length = (dist zs).length := by rw [strs_len txt]; exact py.length_eq
  apply wpAny_bind
  refine wpAny_newList ?_ (by rw [la]; exact Nat.le_trans (Nat.le_of_lt few') (by decide))
  apply wpAny_bind
  apply wpAny_holding
  refine wpAny_mono (sorts_new (prog := X.prog) (w := X.w) (s := { s with drawn := dr }) (h := h1) (tk := tk) (Q := EP X pins σ Q) txt (by rw [la]; exact few') fun out n h2 o1 o2 o3 => ?_) (fun _ _ z => wpAny_pure ⟨_, rfl, z⟩) fun _ _ z => z
  rw [srt_perm_eq py] at o1
  have no : s.heap.get? h1.objs.size = none := by
    cases e : s.heap.get? h1.objs.size with
    | none => rfl
    | some o => exact absurd (Heap.lt_size (keep _ _ e)) (Nat.lt_irrefl _)
  have noH : H h1.objs.size = none := by
    cases e : H h1.objs.size with
    | none => rfl
    | some o =>
      obtain ⟨u, eu⟩ := (I.hok _ _ e).there
      rw [no] at eu; cases eu
  refine ⟨.ref h1.objs.size, _, (I.drawn (dr := dr)).laidN (t' := tk) (o := .lst ((srt (dist zs)).map V.str)) (fun b o e => o2 _ _ (keep _ _ e)) no noH ?_, rfl, q _ noH⟩
  exact ⟨by rw [List.length_map, srt_len]; exact Nat.le_trans (Nat.le_of_lt few') (by decide), out, n, of_strs o1, o3⟩
/-- .. by the text and the world themselves -/
theorem call_setP {P : Program} {w : World} {K : PySem.W.Frag} (hc : X.calm = true) (hP : X.prog = P := by rfl) (hw : X.w = w := by rfl) (hK : X.K = K := by rfl) : CallR X (.type "set") (fun xs H Q => ∃ (p : Addr) (zs : List Str), xs = [.ref p] ∧ (SqL K H p (zs.map V.str) ∨ SqT K H p (zs.map V.str)) ∧ zs.length + 1 < scanBound ∧ ∀ l, H l = none → Q (.ref l) (upd H l (TxtO P w l zs))) := by
  subst hP hw hK
  exact call_set_txt hc
theorem call_sortedP {P : Program} {w : World} (hc : X.calm = true) (hP : X.prog = P := by rfl) (hw : X.w = w := by rfl) : CallR X (.builtin "sorted") (fun xs H Q => ∃ (p : Addr) (zs : List Str), xs = [.ref p] ∧ H p = some (TxtO P w p zs) ∧ zs.length < 64 ∧ ∀ l, H l = none → Q (.ref l) (upd H l (.lst ((srt (dist zs)).map V.str)))) := by
  subst hP hw
  exact call_sorted_set hc
end
end L2

set_option Elab.async false
set_option linter.all false
set_option maxRecDepth 100000
set_option maxHeartbeats 4000000
namespace L2
open PySem PySem.Spec PyProof.Rows
section
variable {X : Cx} {e k : Expr} {te tk : TE} {p2 pos : Pos}
end
end L2

set_option Elab.async false
set_option linter.all false
set_option maxRecDepth 100000
set_option maxHeartbeats 4000000
namespace HT
open PySem PySem.Spec PyProof.Rows
section
variable {prog : Program} {w : World} {A : Around} {E : Value → Shared → Prop} {s : Shared}
end
end HT
namespace L2
open PySem PySem.Spec PyProof.Rows
section
variable {X : Cx} {e k : Expr} {te tk : TE} {p2 pos : Pos}
end
end L2

set_option Elab.async false
set_option linter.all false
set_option maxRecDepth 100000
set_option maxHeartbeats 4000000
namespace L2
open PySem PySem.Spec PyProof.Rows
/-! ### for k, x in enumerate(list) -/
section
variable {X : Cx}
end
end L2

set_option Elab.async false
set_option linter.all false
set_option maxRecDepth 100000
set_option maxHeartbeats 4000000
namespace L2
open PySem PySem.Spec PyProof.Rows
end L2

set_option Elab.async false
set_option linter.all false
set_option maxRecDepth 100000
set_option maxHeartbeats 4000000
namespace K34
open PySem PySem.Spec PyProof.Rows L2
abbrev sPart : Stmt := top 18 -- is_part
abbrev sIsCut : Stmt := top 19 -- is_cut
abbrev sChkC : Stmt := top 20 -- check_cut
/-- the methods places and ties, as the class has them -/
structure Mt (K : PySem.W.Frag) (mg : Str → Option Value) (C fP fS : Addr) (fdP fdS : FuncData) : Prop where
  wc : WC K mg C
  pF : Fun K "places" "Web.places" sPlaces fP fdP
  pM : Meth K C "places" fP
  pB : Binds K fdP ["self"] []
  sF : Fun K "ties" "Web.ties" sTies fS fdS
  sM : Meth K C "ties" fS
  sB : Binds K fdS ["self"] []
theorem TyOf.same {K : PySem.W.Frag} {H H' : Hp} (s : Same H H') {y : V} {t : Value} (h : TyOf K H y t) : TyOf K H' y t := by
  cases h with
  | non => exact .non
  | bl x => exact .bl x
  | int i => exact .int i
  | str x => exact .str x
  | flt x => exact .flt x
  | lst e => exact .lst (s _ _ e)
  | frz e => exact .frz (s _ _ e)
  | tup e => exact .tup (s _ _ e)
  | dK e => exact .dK (s _ _ e)
  | dT e => exact .dT (s _ _ e)
  | ins e c d f g h => exact .ins (s _ _ e) c d f g h
theorem WebObj.meth {C x : Addr} {H : Hp} {ns : List Str} {ps : List (Str × Str)} (h : WebObj C H x ns ps) (m : Str) (e1 : (m == ("kept_places" : Str)) = false := by decide +kernel) (e2 : (m == ("kept_ties" : Str)) = false := by decide +kernel) : ∃ dx fs, H x = some (.ins C dx fs) ∧ fs.lookup m = none := by
  obtain ⟨dx, kp, kt, us, q, _⟩ := h
  exact ⟨dx, _, q, wf_no kp kt m e1 e2⟩
/-! ### things that may be parts -/
/-- an item of a tuple: a text, or a thing that is none -/
def Item (K : PySem.W.Frag) (H : Hp) (x : V) : Prop := (∃ z, x = .str z) ∨ ∃ t, TyOf K H x t ∧ PySem.W.kitOne K t (.type "str") = some false ∧ ∀ z, x ≠ .str z
def okI (ns : List Str) : V → Bool
  | .str z => decide (z ∈ ns)
  | _ => false
def toS : V → Option Str
  | .str z => some z
  | _ => none
def txs (xs : List V) : List Str := xs.filterMap toS
theorem txs_map (zs : List Str) : txs (zs.map V.str) = zs := by
  induction zs with
  | nil => rfl
  | cons z zs ih => show z :: txs (zs.map V.str) = _; rw [ih]
theorem all_txs {ns : List Str} : ∀ {xs : List V}, xs.all (okI ns) = true → xs = (txs xs).map V.str ∧ ∀ z ∈ txs xs, z ∈ ns
  | [], _ => ⟨rfl, fun _ h => by simp [txs] at h⟩
  | x :: xs, h => by
    rw [List.all_cons, Bool.and_eq_true] at h
    obtain ⟨e, m⟩ := all_txs h.2
    cases x with
    | str z =>
      have hz : z ∈ ns := by simpa [okI] using h.1
      refine ⟨by show _ = V.str z :: (txs xs).map V.str; rw [← e], fun y hy => ?_⟩
      rcases List.mem_cons.mp (show y ∈ z :: txs xs from hy) with rfl | q
      · exact hz
      · exact m y q
    | _ => exact absurd h.1 (by simp [okI])
/-- the part that a tuple is -/
def partC (ns : List Str) (xs : List V) : Option (List Str) :=
  if 1 ≤ xs.length ∧ xs.length < ns.length ∧ xs.all (okI ns) = true ∧ txs xs = srt (dist (txs xs)) then some (txs xs) else none
theorem partC_congr {ns ms : List Str} (h : ∀ z, z ∈ ns ↔ z ∈ ms) (l : ns.length = ms.length) (xs : List V) : partC ns xs = partC ms xs := by
  have e : okI ns = okI ms := by
    funext x
    cases x <;> simp [okI, h]
  unfold partC
  rw [e, l]
/-- a thing, and the part that it is -/
def Thing (K : PySem.W.Frag) (H : Hp) (ns : List Str) (y : V) (c : Option (List Str)) : Prop :=
  (c = none ∧ ∃ t, TyOf K H y t ∧ PySem.W.kitOne K t (.type "tuple") = some false) ∨ ∃ a xs, y = .ref a ∧ H a = some (.tup xs) ∧ (∀ x ∈ xs, Item K H x) ∧ c = partC ns xs
theorem Item.same {K : PySem.W.Frag} {H H' : Hp} {x : V} (h : Item K H x) (s : Same H H') : Item K H' x := h.imp id fun ⟨t, ty, e⟩ => ⟨t, TyOf.same s ty, e⟩
theorem Thing.same {K : PySem.W.Frag} {H H' : Hp} {ns : List Str} {y : V} {c : Option (List Str)} (h : Thing K H ns y c) (s : Same H H') : Thing K H' ns y c := by
  rcases h with ⟨e, t, ty, k⟩ | ⟨a, xs, e, h, it, k⟩
  · exact .inl ⟨e, t, TyOf.same s ty, k⟩
  · exact .inr ⟨a, xs, e, s _ _ h, fun x hx => (it x hx).same s, k⟩
theorem Thing.congr {K : PySem.W.Frag} {H : Hp} {ns ms : List Str} {y : V} {c : Option (List Str)} (h : Thing K H ns y c) (e : ∀ z, z ∈ ns ↔ z ∈ ms) (l : ns.length = ms.length) : Thing K H ms y c := by
  rcases h with q | ⟨a, xs, e1, h, it, k⟩
  · exact .inl q
  · exact .inr ⟨a, xs, e1, h, it, by rw [k]; exact partC_congr e l xs⟩
/-- what is a part -/
structure IsPart' (H : Hp) (ns : List Str) (y : V) (zs : List Str) : Prop where
  tup : ∃ a, y = .ref a ∧ H a = some (.tup (zs.map V.str))
  one : 1 ≤ zs.length
  few : zs.length < ns.length
  sub : ∀ z ∈ zs, z ∈ ns
  rise : zs = srt (dist zs)
theorem Thing.part {K : PySem.W.Frag} {H : Hp} {ns : List Str} {y : V} {zs : List Str} (h : Thing K H ns y (some zs)) : IsPart' H ns y zs := by
  rcases h with ⟨e, _⟩ | ⟨a, xs, rfl, ha, it, k⟩
  · cases e
  · unfold partC at k
    split at k
    · rename_i q
      cases k
      obtain ⟨e, m⟩ := all_txs q.2.2.1
      have l : xs.length = (txs xs).length := by rw [e, List.length_map, txs_map]
      refine ⟨⟨a, rfl, by rw [← e]; exact ha⟩, by omega, by omega, m, q.2.2.2⟩
    · cases k
def closed (ps : List (Str × Str)) (zs : List Str) : Bool := !ps.any fun p => decide (p.1 ∈ zs) && !decide (p.2 ∈ zs)
def cutC (ps : List (Str × Str)) : Option (List Str) → Bool
  | none => false
  | some zs => closed ps zs
section
variable {P : Program} {w : World} {K : PySem.W.Frag} {mg : Str → Option Value} {base : Heap}
def spPart : Sp := fun vs H Q _ => ∃ (a : Addr) (ns : List Str) (y : V) (c : Option (List Str)), vs = [.ref a, y] ∧ H a = some (.lst (ns.map V.str)) ∧ ns.length ≤ 12 ∧ Thing K H ns y c ∧ ∀ H', Same H H' → Q (.bl c.isSome) H'
abbrev nPt : List Str := ["places", "thing"]
theorem scPt : FnScope nPt ["places", "thing"] (defScope sPart) := ⟨rfl, rfl, rfl, by decide +kernel, rfl, by decide +kernel, by decide +kernel⟩
theorem eqVs_srt {zs ys : List Str} : eqVs (zs.map V.str) (ys.map V.str) = decide (zs = ys) := eqVs_str zs ys
theorem ok_part {f fA : Addr} {fd fdA : FuncData} (F : Fun K "is_part" "is_part" sPart f fd) (DA : Df K mg "is_among" sAmong ["places", "thing"] fA fdA) (T : Glb mg) : FnOk P w K mg base CX0 2 f fd ["places", "thing"] (spPart (K := K)) := by
  have GA : FnOk P w K mg base CX0 1 fA fdA ["places", "thing"] (spAmong (K := K)) := ok_among DA.fn T
  refine F.ok scPt (fun vs H Q E h => ?_) (fun cdv A outer s H vs Q E hr h => ?_)
  · obtain ⟨a, ns, y, c, rfl, _⟩ := h
    rfl
  · obtain ⟨a, ns, y, c, rfl, ha, few, th, k⟩ := h
    refine ⟨_, pss_cons (ps_if (PW.pt (pw_or (pt_not (pt_val (pe_callB (call_isinst (T := "tuple")) (by rfl) T.isinst PyProof.Rows.boot_isinstance (pa_cons (pv 1) (pa_cons (pe_bltn (v := .ty "tuple") rfl T.tuple PyProof.Rows.boot_tuple rfl) pa_nil))) (fun _ => rfl)))
        (pw_or1 (pt_not (pt_chain op_le op_lt pe_int (pe_callB call_len_seq (by rfl) T.len PySem.boot_len (pa_cons (pv 1) pa_nil)) (pe_callB call_len_seq (by rfl) T.len PySem.boot_len (pa_cons (pv 0) pa_nil))))))) (pss_one (ps_ret pe_bl)) pss_nil)
      (pss_cons (ps_if (pt_not (pt_val (pe_callB (call_all rfl) (by rfl) T.all PyProof.Rows.boot_all (pa_cons (pe_lc ["place"] [0] rfl (compSc (osc := (defScope sPart).names) (N := nPt) rfl rfl (by decide +kernel)) (gk_name (by decide)) (pi_tup (pv 1)) (fun _ _ _ => pg_name (i := 0) (show (["place", "places"] : List Str).Nodup by decide +kernel) rfl (Or.inl rfl)) (fun _ _ _ => pifs_nil)
          (fun _ _ _ => pe_call GA hr rfl DA.mgf DA.fn.kp DA.b .nil pass0 (pa_cons (pv 1) (pa_cons (pv 0) pa_nil)))) pa_nil)) (fun _ => rfl))) (pss_one (ps_ret pe_bl)) pss_nil)
      (pss_one (ps_ret (pe_cmpR (op_eq_flat (low 0 hr)) (pe_callTy call_list_of (by rfl) T.list PyProof.Rows.boot_list (pa_cons (pv 1) pa_nil)) (pe_callB (call_sortedP (P := P) (w := w) rfl) (by rfl) T.sorted PyProof.Rows.boot_sorted (pa_cons (pe_callTy (call_setP (P := P) (w := w) (K := K) rfl) (by rfl) T.set PyProof.Rows.boot_set (pa_cons (pv 1) pa_nil)) pa_nil)) (nomark _))))), ?_⟩
    rcases th with ⟨rfl, t, ty, e⟩ | ⟨u, xs, rfl, hu, it, rfl⟩
    · refine ⟨_, rfl, y, t, false, rfl, ty, e, _, rfl, ?_⟩
      exact iteT (iteT (k _ (Same.refl _)))
    refine ⟨_, rfl, _, _, true, rfl, .tup hu, rfl, _, rfl, ?_⟩
    refine iteF ⟨_, rfl, u, _, rfl, .inr (SqT.of hu), _, _, rfl, rfl, _, rfl, ?_⟩
    by_cases h1 : 1 ≤ xs.length
    case neg =>
      have e : partC ns xs = none := by unfold partC; rw [if_neg fun q => h1 q.1]
      rw [e] at k
      refine ite2 (fun z => absurd z (by simp; omega)) (fun _ => ?_)
      exact ⟨_, rfl, iteT (k _ (Same.refl _))⟩
    refine ite2 (fun _ => ?_) (fun z => absurd z (by simp; omega))
    refine ⟨_, rfl, a, _, rfl, .inl (SqL.of ha), _, _, rfl, rfl, _, rfl, ?_⟩
    rw [List.length_map]
    by_cases h2 : xs.length < ns.length
    case neg =>
      have e : partC ns xs = none := by unfold partC; rw [if_neg fun q => h2 q.2.1]
      rw [e] at k
      refine ite2 (fun _ => k _ (Same.refl _)) (fun z => absurd z (by simp; omega))
    refine ite2 (fun z => absurd z (by simp; omega)) (fun _ => ?_)
    -- all([..])
    refine ⟨_, rfl, u, rfl, ⟨_, SqT.of hu⟩, lc_tup (K := K) (xs := xs) (fun i ys H2 => Same H H2 ∧ ys = (xs.take i).map fun x => V.bl (okI ns x)) ⟨Same.refl _, rfl⟩ ?_ ?_ ?_ ?_⟩
    · rintro i ys H2 hi ⟨_, rfl⟩
      rw [List.length_map, List.length_take]
      exact Nat.le_trans (Nat.min_le_right _ _) (Nat.le_trans (Nat.le_of_lt h2) (Nat.le_trans few (by decide)))
    · rintro i ys H2 _ ⟨s2, _⟩
      exact SqT.of (s2 _ _ hu)
    · rintro i x ys H2 R hx ⟨s2, rfl⟩ kR
      simp only [tYes, gName, if_true]
      have fin : (xs.take (i + 1)).map (fun x => V.bl (okI ns x)) = (xs.take i).map (fun x => V.bl (okI ns x)) ++ [V.bl (okI ns x)] := by
        rw [List.take_add_one, hx]; simp
      refine ⟨_, rfl, _, rfl, ?_⟩
      rcases it x (List.mem_of_getElem? hx) with ⟨z, rfl⟩ | ⟨t, ty, e, ne⟩
      · refine .inl ⟨a, ns, z, rfl, SqL.of (s2 _ _ ha), ?_⟩
        exact kR _ _ ⟨s2, fin.symm⟩
      · refine .inr ⟨a, x, t, rfl, TyOf.same s2 ty, e, ?_⟩
        have e0 : okI ns x = false := by cases x <;> first | rfl | exact absurd rfl (ne _)
        rw [e0] at fin
        exact kR _ _ ⟨s2, fin.symm⟩
    · rintro ys H2 ⟨s2, rfl⟩ D hD
      rw [List.take_of_length_le (Nat.le_refl _)]
      have e : xs.map (fun x => V.bl (okI ns x)) = (xs.map (okI ns)).map V.bl := by simp
      refine ⟨D, xs.map (okI ns), rfl, (by rw [e]; exact SqL.of upd_same), _, rfl, ?_⟩
      have e2 : (xs.map (okI ns)).all id = xs.all (okI ns) := by simp [List.all_map, Function.comp_def]
      rw [e2]
      have s3 : Same H (upd H2 D (.lst (xs.map fun x => V.bl (okI ns x)))) := s2.trans (same_upd hD)
      generalize upd H2 D (.lst (xs.map fun x => V.bl (okI ns x))) = H3 at s3 ⊢
      by_cases h3 : xs.all (okI ns) = true
      case neg =>
        have e : partC ns xs = none := by unfold partC; rw [if_neg fun q => h3 q.2.2.1]
        rw [e] at k
        rw [Bool.eq_false_iff.mpr h3]
        exact iteT (k _ s3)
      rw [h3]
      refine iteF ?_
      obtain ⟨ex, _⟩ := all_txs h3
      have hu3 : H3 u = some (.tup ((txs xs).map V.str)) := by rw [← ex]; exact s3 _ _ hu
      have l : xs.length = (txs xs).length := by rw [ex, List.length_map, txs_map]
      refine ⟨_, rfl, u, _, rfl, .inr (SqT.of hu3), fun l1 hl1 => ?_⟩
      have s4 := same_upd (o := .lst ((txs xs).map V.str)) hl1
      have hl4 := upd_same (H := H3) (a := l1) (o := .lst ((txs xs).map V.str))
      generalize upd H3 l1 (.lst ((txs xs).map V.str)) = H4 at s4 hl4 ⊢
      refine ⟨_, rfl, u, txs xs, rfl, .inr (SqT.of (s4 _ _ hu3)), (by rw [← l]; exact Nat.lt_of_le_of_lt (Nat.succ_le_of_lt (Nat.lt_of_lt_of_le h2 few)) (by decide)), fun l2 hl2 => ?_⟩
      have s5 := same_upd (o := TxtO P w l2 (txs xs)) hl2
      have hl5 := upd_same (H := H4) (a := l2) (o := TxtO P w l2 (txs xs))
      refine ⟨l2, txs xs, rfl, hl5, (by omega), fun l3 hl3 => ?_⟩
      have s6 := same_upd (o := .lst ((srt (dist (txs xs))).map V.str)) hl3
      refine ⟨l1, l3, _, _, rfl, rfl, .inl ⟨SqL.of (s6 _ _ (s5 _ _ hl4)), SqL.of upd_same⟩, flat_strs _, flat_strs _, ?_⟩
      rw [eqVs_srt]
      have e : (partC ns xs).isSome = decide (txs xs = srt (dist (txs xs))) := by
        unfold partC
        by_cases q : txs xs = srt (dist (txs xs))
        · rw [if_pos ⟨h1, h2, h3, q⟩, decide_eq_true q]; rfl
        · rw [if_neg fun z => q z.2.2.2, decide_eq_false q]; rfl
      rw [e] at k
      exact k _ (s3.trans (s4.trans (s5.trans s6)))
end
end K34

set_option Elab.async false
set_option linter.all false
set_option maxRecDepth 100000
set_option maxHeartbeats 4000000
namespace K34
open PySem PySem.Spec PyProof.Rows L2
structure GoodW (ns : List Str) (ps : List (Str × Str)) : Prop where
  good : GoodP ns
  ins : InP ns ps
  few : ps.length ≤ 30
structure Gl2 (mg : Str → Option Value) : Prop where
  any : mg "any" = none
  enum : mg "enumerate" = none
/-- the defs that is_cut leans on -/
structure Cd (K : PySem.W.Frag) (mg : Str → Option Value) (C fP fS fA fPt fCu : Addr) (fdP fdS fdA fdPt fdCu : FuncData) : Prop where
  m : Mt K mg C fP fS fdP fdS
  a : Df K mg "is_among" sAmong ["places", "thing"] fA fdA
  p : Df K mg "is_part" sPart ["places", "thing"] fPt fdPt
  c : Df K mg "is_cut" sIsCut ["web", "thing"] fCu fdCu
  g : Gl2 mg
section
variable {P : Program} {w : World} {K : PySem.W.Frag} {mg : Str → Option Value} {base : Heap}
variable {C fP fS fA fPt fCu : Addr} {fdP fdS fdA fdPt fdCu : FuncData}
def spIsCut (C : Addr) : Sp := fun vs H Q _ => ∃ (x : Addr) (ns : List Str) (ps : List (Str × Str)) (y : V) (c : Option (List Str)), vs = [.ref x, y] ∧ WebObj C H x ns ps ∧ GoodW ns ps ∧ Thing K H ns y c ∧ ∀ H', Same H H' → Q (.bl (cutC ps c)) H'
abbrev nIc : List Str := ["web", "thing"]
theorem scIc : FnScope nIc ["web", "thing"] (defScope sIsCut) := ⟨rfl, rfl, rfl, by decide +kernel, rfl, by decide +kernel, by decide +kernel⟩
theorem ok_isCut {f : Addr} {fd : FuncData} (F : Fun K "is_cut" "is_cut" sIsCut f fd) (D : Cd K mg C fP fS fA fPt fCu fdP fdS fdA fdPt fdCu) (T : Glb mg) : FnOk P w K mg base CX0 3 f fd ["web", "thing"] (spIsCut (K := K) C) := by
  have GP : FnOk P w K mg base CX0 2 fPt fdPt ["places", "thing"] (spPart (K := K)) := ok_part D.p.fn D.a T
  have GL : FnOk P w K mg base CX0 1 fP fdP ["self"] (spPl C) := ok_places D.m.pF D.m.wc T
  have GT : FnOk P w K mg base CX0 1 fS fdS ["self"] (spTs C) := ok_ties D.m.sF D.m.wc T
  refine F.ok scIc (fun vs H Q E h => ?_) (fun cdv A outer s H vs Q E hr h => ?_)
  · obtain ⟨x, ns, ps, y, c, rfl, _⟩ := h
    rfl
  · obtain ⟨x, ns, ps, y, c, rfl, hW, g, th, k⟩ := h
    have h1 := hr.mono (j := 1) (by decide)
    refine ⟨_, pss_cons (ps_if (pt_not (pt_val (pe_call GP hr rfl D.p.mgf D.p.fn.kp D.p.b .nil pass0 (pa_cons (pe_meth0 (pv 0) D.m.wc.cl D.m.pM GL h1 D.m.pB .nil pass0) (pa_cons (pv 1) pa_nil))) (fun _ => rfl))) (pss_one (ps_ret pe_bl)) pss_nil)
      (pss_one (ps_ret (pe_not (pe_callB (call_any rfl) (by rfl) D.g.any PyProof.Rows.boot_any (pa_cons (pe_lc ["a", "b"] [1] rfl (compSc (osc := (defScope sIsCut).names) (N := nIc) rfl rfl (by decide +kernel)) (gk_two (K := K) (k := 2) (by decide) (by decide)) (pi_list (pe_meth0 (pv 0) D.m.wc.cl D.m.sM GT h1 D.m.sB .nil pass0))
        (fun _ _ _ => pg_tup rfl (pgs_cons (pg_name (i := 0) (show (["a", "b", "thing"] : List Str).Nodup by decide +kernel) rfl (Or.inl rfl)) (pgs_cons (pg_name (i := 1) (show (["a", "b", "thing"] : List Str).Nodup by decide +kernel) rfl (Or.inl rfl)) pgs_nil))) (fun _ _ _ => pifs_nil)
        (fun _ _ _ => pe_and (pe_cmpR (r := rIn K false) op_in_seq (pv 0) (pv 2) rfl) (pe_one (pe_cmpR (r := rIn K true) op_notIn_seq (pv 1) (pv 2) rfl)))) pa_nil))))), ?_⟩
    obtain ⟨d1, f1, q1, r1⟩ := hW.meth "places"
    refine ⟨_, rfl, x, d1, f1, rfl, q1, r1, x, ns, ps, rfl, hW, fun l hl => ?_⟩
    have sl := same_upd (o := .lst ((srt ns).map V.str)) hl
    have hl1 := upd_same (H := H) (a := l) (o := .lst ((srt ns).map V.str))
    generalize upd H l (.lst ((srt ns).map V.str)) = H1 at sl hl1 ⊢
    refine ⟨_, rfl, l, srt ns, y, c, rfl, hl1, by rw [srt_len]; exact g.good.few, (th.same sl).congr (fun z => srt_mem.symm) (srt_len ns).symm, fun H2 s2 => ⟨_, rfl, ?_⟩⟩
    have s02 := sl.trans s2
    cases c with
    | none => exact iteT (k _ s02)
    | some zs =>
      refine iteF ?_
      have pt := (th.same s02).part
      obtain ⟨u, rfl, hu⟩ := pt.tup
      have W2 := hW.same s02
      obtain ⟨d2, f2, q2, r2⟩ := W2.meth "ties"
      refine ⟨_, rfl, x, d2, f2, rfl, q2, r2, x, ns, ps, rfl, W2, fun l2 us hl2 hU => ⟨l2, rfl, ⟨_, SqL.of upd_same⟩, ?_⟩⟩
      have s3 := same_upd (o := .lst (us.map V.ref)) hl2
      have hl3 := upd_same (H := H2) (a := l2) (o := .lst (us.map V.ref))
      generalize upd H2 l2 (.lst (us.map V.ref)) = H3 at s3 hl3 ⊢
      have hU3 := hU.same s3
      have hu3 := s3 _ _ hu
      have le : (us.map V.ref).length = ps.length := by rw [List.length_map, hU.len]
      refine lc_list (K := K) (xs := us.map V.ref) (fun i ys H4 => Same H3 H4 ∧ ys = (ps.take i).map fun p => V.bl (decide (p.1 ∈ zs) && !decide (p.2 ∈ zs))) ⟨Same.refl _, rfl⟩ ?_ ?_ ?_ ?_
      · rintro i ys H4 hi ⟨_, rfl⟩
        rw [List.length_map, List.length_take]
        exact Nat.le_trans (Nat.min_le_right _ _) (Nat.le_trans g.few (by decide))
      · rintro i ys H4 _ ⟨s4, _⟩
        exact SqL.of (s4 _ _ hl3)
      · rintro i v ys H4 R hv ⟨s4, rfl⟩ kR
        rw [List.getElem?_map] at hv
        obtain ⟨t, et, rfl⟩ := Option.map_eq_some_iff.mp hv
        obtain ⟨p, ep, ht⟩ := hU3.get et
        have fin : (ps.take (i + 1)).map (fun p => V.bl (decide (p.1 ∈ zs) && !decide (p.2 ∈ zs))) = (ps.take i).map (fun p => V.bl (decide (p.1 ∈ zs) && !decide (p.2 ∈ zs))) ++ [V.bl (decide (p.1 ∈ zs) && !decide (p.2 ∈ zs))] := by
          rw [List.take_add_one, ep]; simp
        refine ⟨t, _, rfl, SqT.of (s4 _ _ ht), rfl, _, _, rfl, _, _, rfl, rfl, ?_⟩
        simp only [tYes, if_true]
        refine ⟨_, rfl, _, rfl, u, _, rfl, .inr (SqT.of (s4 _ _ hu3)), rfl, flat_strs zs, _, rfl, ?_⟩
        simp only [Bool.false_eq_true, if_false]
        rw [inV_str]
        by_cases hp : p.1 ∈ zs
        · rw [decide_eq_true hp] at fin ⊢
          refine iteT ⟨_, rfl, _, rfl, u, _, rfl, .inr (SqT.of (s4 _ _ hu3)), rfl, flat_strs zs, ?_⟩
          simp only [if_true]
          rw [inV_str]
          exact kR _ _ ⟨s4, by rw [fin, Bool.true_and]⟩
        · rw [decide_eq_false hp] at fin ⊢
          exact iteF (kR _ _ ⟨s4, by rw [fin, Bool.false_and]⟩)
      · rintro ys H4 ⟨s4, rfl⟩ D4 hD4
        rw [le, List.take_of_length_le (Nat.le_refl _)]
        have e : ps.map (fun p => V.bl (decide (p.1 ∈ zs) && !decide (p.2 ∈ zs))) = (ps.map fun p => decide (p.1 ∈ zs) && !decide (p.2 ∈ zs)).map V.bl := by simp
        refine ⟨D4, ps.map fun p => decide (p.1 ∈ zs) && !decide (p.2 ∈ zs), rfl, (by rw [e]; exact SqL.of upd_same), _, rfl, ?_⟩
        have e2 : (!(ps.map fun p => decide (p.1 ∈ zs) && !decide (p.2 ∈ zs)).any id) = closed ps zs := by simp [closed, List.any_map, Function.comp_def]
        have := k _ (s02.trans (s3.trans (s4.trans (same_upd (o := .lst (ps.map fun p => V.bl (decide (p.1 ∈ zs) && !decide (p.2 ∈ zs)))) hD4))))
        rw [e2]
        exact this
/-! ### check_cut, ties_of -/
theorem scCc : FnScope ["web", "cut"] ["web", "cut"] (defScope sChkC) := ⟨rfl, rfl, rfl, by decide +kernel, rfl, by decide +kernel, by decide +kernel⟩
end
end K34

set_option Elab.async false
set_option linter.all false
set_option maxRecDepth 100000
set_option maxHeartbeats 4000000
namespace K34
open PySem PySem.Spec PyProof.Rows L2
abbrev sLWeb : Stmt := top 36 -- _law_web
theorem perm_strs {ys : List V} {ns : List Str} (h : ys.Perm (ns.map V.str)) : ∃ ms : List Str, ms.Perm ns ∧ ys = ms.map V.str := by
  have ha : ys.all (okI ns) = true := List.all_eq_true.mpr fun y hy => by
    obtain ⟨z, hz, rfl⟩ := List.mem_map.mp (h.mem_iff.mp hy)
    show decide (z ∈ ns) = true
    exact decide_eq_true hz
  refine ⟨txs ys, ?_, (all_txs ha).1⟩
  have := h.filterMap toS
  rw [show (ns.map V.str).filterMap toS = ns from txs_map ns] at this
  exact this
theorem GoodP.perm {ns ms : List Str} (g : GoodP ns) (h : ms.Perm ns) : GoodP ms := ⟨by rw [h.length_eq]; exact g.one, by rw [h.length_eq]; exact g.few, fun z hz => g.nms z (h.mem_iff.mp hz), h.nodup_iff.mpr g.nd⟩
section
variable {P : Program} {w : World} {K : PySem.W.Frag} {mg : Str → Option Value} {base : Heap}
def spLWeb : Sp := fun vs H Q _ => ∃ (p a : Addr) (ns : List Str) (mst : Nat), vs = [.ref p, .ref a, .int mst] ∧ mst ≤ 30 ∧ Row H p ∧ H a = some (.lst (ns.map V.str)) ∧ GoodP ns ∧
  ∀ (b : Addr) (ps : List (Str × Str)) (ts : List Addr) (H' : Hp), H b = none → H' b = some (.lst (ts.map V.ref)) → TiesAt H' ts ps → GoodW ns ps → Row H' p → But p H H' → Q (.ref b) H'
abbrev nLW : List Str := ["_law_pot_here", "_law_names_here", "_law_most", "_law_turned", "_law_ties", "_law_k", "_law_a", "_law_b"]
theorem scLW : FnScope nLW ["_law_pot_here", "_law_names_here", "_law_most"] (defScope sLWeb) := ⟨rfl, rfl, rfl, by decide +kernel, rfl, by decide +kernel, by decide +kernel⟩
structure WI (p a q b : Addr) (ns ms : List Str) (H : Hp) (i : Nat) (ps : List (Str × Str)) (ts : List Addr) (H2 : Hp) : Prop where
  row : Row H2 p
  but : But p H H2
  ha : H2 a = some (.lst (ns.map V.str))
  hq : H2 q = some (.lst (ms.map V.str))
  hb : H2 b = some (.lst (ts.map V.ref))
  ties : TiesAt H2 ts ps
  ins : InP ns ps
  len : ps.length = i
theorem WI.drawn {p a q b : Addr} {ns ms : List Str} {H H2 H3 : Hp} {i : Nat} {ps : List (Str × Str)} {ts : List Addr} (h : WI p a q b ns ms H i ps ts H2) (s : But p H2 H3) (r : Row H3 p) (na : a ≠ p) (nq : q ≠ p) (nb : b ≠ p) : WI p a q b ns ms H i ps ts H3 :=
  ⟨r, h.but.trans s, s _ _ h.ha na, s _ _ h.hq nq, s _ _ h.hb nb, h.ties.but s (fun ys z => by obtain ⟨xs, e⟩ := h.row.lst; rw [e] at z; cases z), h.ins, h.len⟩
def WL (mst : Nat) (p a q b : Addr) (ns ms : List Str) (H : Hp) (i : Nat) (σ : L2.St) (H2 : Hp) : Prop := ∃ (v5 v6 v7 : Option V) (ps : List (Str × Str)) (ts : List Addr), σ = [some (V.ref p), some (V.ref a), some (V.int mst), some (V.ref q), some (V.ref b), v5, v6, v7] ∧ WI p a q b ns ms H i ps ts H2
theorem ok_lweb {f fD fS : Addr} {fd fdD fdS : FuncData} (F : Fun K "_law_web" "_law_web" sLWeb f fd) (D : Df K mg "_law_digit" sDigit ["_law_pot_here", "_law_many"] fD fdD) (DS : Df K mg "_law_shuffled" sShuf ["_law_pot_here", "_law_things"] fS fdS) (T : Glb mg) :
    FnOk P w K mg base CX0 3 f fd ["_law_pot_here", "_law_names_here", "_law_most"] spLWeb := by
  have G : FnOk P w K mg base CX0 1 fD fdD ["_law_pot_here", "_law_many"] spDg := ok_digit D.fn T
  have GS : FnOk P w K mg base CX0 2 fS fdS ["_law_pot_here", "_law_things"] spShuf := ok_shuf DS.fn D T
  refine F.ok scLW (fun vs H Q E h => ?_) (fun cdv A outer s H vs Q E hr h => ?_)
  · obtain ⟨p, a, ns, mst, rfl, _⟩ := h
    rfl
  · obtain ⟨p, a, ns, mst, rfl, m30, hp, ha, good, k⟩ := h
    have h1 := hr.mono (j := 1) (by decide)
    refine ⟨_, pss_cons (ps_set (i := 3) scLW.nd rfl (Or.inl rfl) (pe_call GS hr rfl DS.mgf DS.fn.kp DS.b .nil pass0 (pa_cons (pv 0) (pa_cons (pv 1) pa_nil))))
      (pss_cons (ps_set (i := 4) scLW.nd rfl (Or.inl rfl) (pe_lst pa_nil))
      (pss_cons (ps_for PassesOwn.never rfl (pi_range1 rfl T.range (pa_cons (pe_call G h1 rfl D.mgf D.fn.kp D.b .nil pass0 (pa_cons (pv 0) (pa_cons (pe_op op_add (pv 2) pe_int) pa_nil))) pa_nil)) (pg_name (i := 5) scLW.nd rfl (Or.inl rfl))
        (pss_cons (ps_set (i := 6) scLW.nd rfl (Or.inl rfl) (pe_call G h1 rfl D.mgf D.fn.kp D.b .nil pass0 (pa_cons (pv 0) (pa_cons (pe_callB call_len_seq (by rfl) T.len PySem.boot_len (pa_cons (pv 1) pa_nil)) pa_nil))))
        (pss_cons (ps_set (i := 7) scLW.nd rfl (Or.inl rfl) (pe_call G h1 rfl D.mgf D.fn.kp D.b .nil pass0 (pa_cons (pv 0) (pa_cons (pe_callB call_len_seq (by rfl) T.len PySem.boot_len (pa_cons (pv 1) pa_nil)) pa_nil))))
        (pss_cons (ps_if (PW.pt (pw_and (pt_cmpR op_gt (pv 6) (pv 7) (nomark _)) (pw_and1 (pt_cmpR op_gt (pe_call G h1 rfl D.mgf D.fn.kp D.b .nil pass0 (pa_cons (pv 0) (pa_cons pe_int pa_nil))) pe_int (nomark _)))))
          (pss_one (ps_par rfl scLW.nd rfl rfl (i := 6) (j := 7) (by decide) rfl rfl (pa_cons (pv 7) (pa_cons (pv 6) pa_nil)) rfl)) pss_nil)
        (pss_one (ps_expr (pe_bm PySem.F.plainAttrs_list PySem.F.slot_list_append PySem.F.type_list_append mt_append (pv 4) (pa_cons (pe_tup (pa_cons (pe_ix ix_list (pv 3) (pv 6) (fun _ _ => rfl)) (pa_cons (pe_ix ix_list (pv 3) (pv 7) (fun _ _ => rfl)) pa_nil))) pa_nil))))))))
      (pss_one (ps_ret (pv 4))))), ?_⟩
    refine ⟨_, rfl, _, rfl, p, a, _, rfl, hp, ha, (by rw [List.length_map]; have := good.few; omega), fun q ys H1 pm hq hq1 hp1 b1 => ?_⟩
    obtain ⟨ms, pms, rfl⟩ := perm_strs pm
    have npa : a ≠ p := fun e => by obtain ⟨x, y, z⟩ := hp; rw [← e, ha] at z; cases ns with | nil => exact absurd good.one (by decide) | cons n r => cases z
    have ha1 := b1 _ _ ha npa
    have nqp : q ≠ p := fun e => by obtain ⟨x, y, z⟩ := hp; rw [e, z] at hq; cases hq
    refine ⟨(by decide), fun b hb => ?_⟩
    have nbp : b ≠ p := fun e => by obtain ⟨x, y, z⟩ := hp1; rw [e, z] at hb; cases hb
    have Hb : H b = none := b1.none hb nbp
    have nqb : q ≠ b := ne_of_none hq1 hb
    have nab : a ≠ b := ne_of_none ha1 hb
    refine ⟨_, rfl, _, rfl, _, _, rfl, rfl, p, _, rfl, hp1.upd_ne (Ne.symm nbp), by omega, by omega, fun d2 H4 d2a d2b hp4 b4 => ?_⟩
    have W0 : WI p a q b ns ms H 0 [] [] H4 := ⟨hp4, (b1.upd_new Hb).trans b4, b4 _ _ (by rw [L2.upd_ne nab]; exact ha1) npa, b4 _ _ (by rw [L2.upd_ne nqb]; exact hq1) nqp, b4 _ _ upd_same nbp, .nil, (fun _ z => nomatch z), rfl⟩
    refine ⟨_, rfl, by omega, by omega, ?_⟩
    have lms : ms.length = ns.length := pms.length_eq
    have lpos : (0 : Int) < ns.length := by have := good.one; omega
    have lbig : (ns.length : Int) < 1000 := by have := good.few; omega
    have hlen : ((ns.map V.str).length : Int) = ns.length := by rw [List.length_map]
    refine for_range (WL mst p a q b ns ms H) ⟨_, _, _, [], [], rfl, W0⟩ ?_ ?_
    · rintro i σ H5 hi ⟨v5, v6, v7, ps, ts, rfl, W5⟩
      refine ⟨_, rfl, _, rfl, a, _, rfl, .inl (SqL.of W5.ha), p, _, rfl, W5.row, by rw [hlen]; exact lpos, by rw [hlen]; exact lbig, fun one H6 o1 o2 hp6 b6 => ?_⟩
      have W6 := W5.drawn b6 hp6 npa nqp nbp
      refine ⟨_, rfl, _, rfl, a, _, rfl, .inl (SqL.of W6.ha), p, _, rfl, W6.row, by rw [hlen]; exact lpos, by rw [hlen]; exact lbig, fun oth H7 t1 t2 hp7 b7 => ?_⟩
      have W7 := W6.drawn b7 hp7 npa nqp nbp
      rw [hlen] at o2 t2
      have fin : ∀ (D : Ends), D.nx = WL mst p a q b ns ms H (i + 1) → ∀ (x y : Int) (H8 : Hp), 0 ≤ x → x < ns.length → 0 ≤ y → y < ns.length → WI p a q b ns ms H i ps ts H8 →
          tDrop (tBM K "list" rAppend (tVar 4) (tCons (tTup (tCons (tOp (rIxL K) (tVar 3) (tVar 6)) (tCons (tOp (rIxL K) (tVar 3) (tVar 7)) tNil))) tNil)) D
            [some (V.ref p), some (V.ref a), some (V.int mst), some (V.ref q), some (V.ref b), some (V.int (0 + i)), some (V.int x), some (V.int y)] H8 := by
        intro D0 hD x y H8 x1 x2 y1 y2 W8
        obtain ⟨m, rfl⟩ := Int.eq_ofNat_of_zero_le x1
        obtain ⟨n, rfl⟩ := Int.eq_ofNat_of_zero_le y1
        have hm : m < ms.length := by omega
        have hn' : n < ms.length := by omega
        refine ⟨_, rfl, .inl ⟨rfl, _, SqL.of W8.hb⟩, _, rfl, _, rfl, q, _, _, _, rfl, rfl, SqL.of W8.hq, atI_nat (j := m) (v := .str ms[m]) (by simp [hm]), _, rfl, _, rfl, q, _, _, _, rfl, rfl, SqL.of W8.hq, atI_nat (j := n) (v := .str ms[n]) (by simp [hn']), (by show 2 ≤ sizeLine; decide), fun t ht => ?_⟩
        have npt : p ≠ t := ne_of_none W8.row.lst.choose_spec ht
        have nbt : b ≠ t := ne_of_none W8.hb ht
        have lts : ts.length = i := by rw [W8.ties.len, W8.len]
        refine ⟨b, _, _, rfl, rfl, by rw [L2.upd_ne nbt]; exact W8.hb, (by rw [List.length_map, lts]; exact small1000 (by omega)), ?_⟩
        rw [hD]
        have Ht : H t = none := W8.but.none ht (Ne.symm npt)
        refine ⟨_, _, _, ps ++ [(ms[m], ms[n])], ts ++ [t], rfl, (W8.row.upd_ne npt).upd_ne (Ne.symm nbp), (W8.but.upd_new Ht).upd_new Hb, ?_, ?_, ?_, ?_, ?_, ?_⟩
        · rw [L2.upd_ne nab, L2.upd_ne (ne_of_none W8.ha ht)]; exact W8.ha
        · rw [L2.upd_ne nqb, L2.upd_ne (ne_of_none W8.hq ht)]; exact W8.hq
        · rw [upd_same]; simp
        · refine TiesAt.snoc (W8.ties.mono fun t' xs e => ?_) ?_
          · rw [L2.upd_ne (ne_of e W8.hb (by intro z; cases z)), L2.upd_ne (ne_of_none e ht)]; exact e
          · rw [L2.upd_ne (Ne.symm nbt)]; exact upd_same
        · intro z hz
          rcases List.mem_append.mp hz with h | h
          · exact W8.ins z h
          · rw [List.mem_singleton.mp h]; exact ⟨pms.mem_iff.mp (List.getElem_mem hm), pms.mem_iff.mp (List.getElem_mem hn')⟩
        · rw [List.length_append, W8.len]; rfl
      refine ⟨_, rfl, _, rfl, _, _, rfl, rfl, _, rfl, ?_⟩
      refine ite2 (fun hb2 => ?_) (fun _ => fin _ rfl one oth H7 o1 o2 t1 t2 W7)
      refine ⟨_, rfl, p, _, rfl, W7.row, by decide, by decide, fun d3 H8 _ _ hp8 b8 => ?_⟩
      have W8 := W7.drawn b8 hp8 npa nqp nbp
      refine ⟨_, _, rfl, rfl, _, rfl, ?_⟩
      refine ite2 (fun _ => ?_) (fun _ => fin _ rfl one oth H8 o1 o2 t1 t2 W8)
      exact ⟨_, rfl, _, rfl, _, _, rfl, fin _ rfl oth one H8 t1 t2 o1 o2 W8⟩
    · rintro σ H5 ⟨v5, v6, v7, ps, ts, rfl, W5⟩
      exact ⟨_, rfl, k b ps ts H5 Hb W5.hb W5.ties ⟨good, W5.ins, by rw [W5.len]; omega⟩ W5.row W5.but⟩
end
end K34

set_option Elab.async false
set_option linter.all false
set_option maxRecDepth 100000
set_option maxHeartbeats 4000000
namespace K34
open PySem PySem.Spec PyProof.Rows L2
abbrev sClosed : Stmt := top 37 -- _law_closed
/-! ### closed by rounds -/
def out (ys : List Str) (p : Str × Str) : Bool := decide (p.1 ∈ ys) && !decide (p.2 ∈ ys)
def news (ps : List (Str × Str)) (ys : List Str) : List Str := (ps.filter (out ys)).map (·.2)
def grow (ps : List (Str × Str)) (ys : List Str) : List Str := ys ++ srt (dist (news ps ys))
theorem mem_news {ps : List (Str × Str)} {ys : List Str} {z : Str} (h : z ∈ news ps ys) : z ∉ ys ∧ ∃ p ∈ ps, p.2 = z := by
  obtain ⟨p, hp, rfl⟩ := List.mem_map.mp h
  obtain ⟨h1, h2⟩ := List.mem_filter.mp hp
  simp only [out, Bool.and_eq_true, Bool.not_eq_true', decide_eq_false_iff_not] at h2
  exact ⟨h2.2, p, h1, rfl⟩
theorem closed_iff {ps : List (Str × Str)} {ys : List Str} : closed ps ys = true ↔ news ps ys = [] := by
  unfold closed news
  rw [Bool.not_eq_true', List.map_eq_nil_iff, List.filter_eq_nil_iff, List.any_eq_false]
  rfl
theorem mem_grow {ps : List (Str × Str)} {ys : List Str} {z : Str} : z ∈ grow ps ys ↔ z ∈ ys ∨ z ∈ news ps ys := by
  unfold grow; rw [List.mem_append, srt_mem, mem_dist]
theorem grow_nd {ps : List (Str × Str)} {ys : List Str} (h : ys.Nodup) : (grow ps ys).Nodup :=
  List.nodup_append.mpr ⟨h, srt_nd (dist_nodup _), fun a ha b hb e => (mem_news (mem_dist.mp (srt_mem.mp hb))).1 (e ▸ ha)⟩
theorem grow_in {ps : List (Str × Str)} {ys ns : List Str} (i : InP ns ps) (h : ∀ z ∈ ys, z ∈ ns) : ∀ z ∈ grow ps ys, z ∈ ns := fun z hz =>
  (mem_grow.mp hz).elim (h z) fun q => by obtain ⟨_, p, hp, rfl⟩ := mem_news q; exact (i p hp).2
theorem grow_same {ps : List (Str × Str)} {ys : List Str} (h : closed ps ys = true) : grow ps ys = ys := by
  unfold grow; rw [closed_iff.mp h]; simp [dist, srt]
theorem grow_more {ps : List (Str × Str)} {ys : List Str} (h : ¬ closed ps ys = true) : ys.length < (grow ps ys).length := by
  have : news ps ys ≠ [] := fun e => h (closed_iff.mpr e)
  obtain ⟨z, hz⟩ := List.exists_mem_of_ne_nil _ this
  have := List.length_pos_of_mem (srt_mem.mpr (mem_dist.mpr hz))
  unfold grow
  rw [List.length_append]
  omega
/-- closed, or as many as the rounds and one -/
def Grown (ps : List (Str × Str)) (i : Nat) (ys : List Str) : Prop := closed ps ys = true ∨ i < ys.length
theorem Grown.next {ps : List (Str × Str)} {i : Nat} {ys : List Str} (h : Grown ps i ys) : Grown ps (i + 1) (grow ps ys) := by
  by_cases c : closed ps ys = true
  · left; rw [grow_same c]; exact c
  · right; have := grow_more c; rcases h with h | h
    · exact absurd h c
    · omega
theorem closed_congr {ps : List (Str × Str)} {ys zs : List Str} (h : ∀ z, z ∈ ys ↔ z ∈ zs) : closed ps ys = closed ps zs := by
  unfold closed; congr 2; funext p; simp [h]
section
variable {P : Program} {w : World} {K : PySem.W.Frag} {mg : Str → Option Value} {base : Heap}
/-- a rising part of the places, closed -/
structure Shut (ns : List Str) (ps : List (Str × Str)) (zs : List Str) : Prop where
  rise : srt zs = zs
  nd : zs.Nodup
  ins : ∀ z ∈ zs, z ∈ ns
  some : zs ≠ []
  shut : closed ps zs = true
def spClosed : Sp := fun vs H Q _ => ∃ (b u : Addr) (ns zs : List Str) (ts : List Addr) (ps : List (Str × Str)), vs = [.ref b, .ref u] ∧ H b = some (.lst (ts.map V.ref)) ∧ TiesAt H ts ps ∧ GoodW ns ps ∧ H u = some (.lst (zs.map V.str)) ∧ zs.Nodup ∧ (∀ z ∈ zs, z ∈ ns) ∧ zs ≠ [] ∧
  ∀ (l : Addr) (ys : List Str) (H' : Hp), H' l = some (.tup (ys.map V.str)) → Shut ns ps ys → Same H H' → Q (.ref l) H'
abbrev nCl : List Str := ["_law_ties", "_law_some", "_law_found", "_law_turn"]
theorem scCl : FnScope nCl ["_law_ties", "_law_some"] (defScope sClosed) := ⟨rfl, rfl, rfl, by decide +kernel, rfl, by decide +kernel, by decide +kernel⟩
def ClI (b u : Addr) (ns : List Str) (ps : List (Str × Str)) (H : Hp) (i : Nat) (σ : L2.St) (H2 : Hp) : Prop :=
  ∃ (v3 : Option V) (fo : Addr) (ys : List Str), σ = [some (.ref b), some (.ref u), some (.ref fo), v3] ∧ Same H H2 ∧ H2 fo = some (.lst (ys.map V.str)) ∧ ys.Nodup ∧ (∀ z ∈ ys, z ∈ ns) ∧ Grown ps i ys ∧ ys ≠ []
theorem ok_closed {f : Addr} {fd : FuncData} (F : Fun K "_law_closed" "_law_closed" sClosed f fd) (T : Glb mg) : FnOk P w K mg base CX0 1 f fd ["_law_ties", "_law_some"] spClosed := by
  refine F.ok scCl (fun vs H Q E h => ?_) (fun cdv A outer s H vs Q E hr h => ?_)
  · obtain ⟨b, u, ns, zs, ts, ps, rfl, _⟩ := h
    rfl
  · obtain ⟨b, u, ns, zs, ts, ps, rfl, hb, hT, g, hu, nd, sub, ne, k⟩ := h
    refine ⟨_, pss_cons (ps_set (i := 2) scCl.nd rfl (Or.inr rfl) (pe_callTy call_list_of (by rfl) T.list PyProof.Rows.boot_list (pa_cons (pv 1) pa_nil)))
      (pss_cons (ps_for PassesOwn.never rfl (pi_range1 rfl T.range (pa_cons pe_int pa_nil)) (pg_name (i := 3) scCl.nd rfl (Or.inl rfl))
        (pss_one (ps_set (i := 2) scCl.nd rfl (Or.inr rfl) (pe_op op_cat (pv 2) (pe_callB (call_sortedP (P := P) (w := w) rfl) (by rfl) T.sorted PyProof.Rows.boot_sorted (pa_cons (pe_callTy (call_setP (P := P) (w := w) (K := K) rfl) (by rfl) T.set PyProof.Rows.boot_set
          (pa_cons (pe_lc ["_law_a", "_law_b"] [2] rfl (compSc (osc := (defScope sClosed).names) (N := nCl) rfl rfl (by decide +kernel)) (gk_two (K := K) (k := 2) (by decide) (by decide)) (pi_list (pv 0))
            (fun _ _ _ => pg_tup rfl (pgs_cons (pg_name (i := 0) (show (["_law_a", "_law_b", "_law_found"] : List Str).Nodup by decide +kernel) rfl (Or.inl rfl)) (pgs_cons (pg_name (i := 1) (show (["_law_a", "_law_b", "_law_found"] : List Str).Nodup by decide +kernel) rfl (Or.inl rfl)) pgs_nil)))
            (fun _ _ _ => pifs_one (PW.pt (pw_and (pt_cmpR (r := rIn K false) op_in_seq (pv 0) (pv 2) rfl) (pw_and1 (pt_cmpR (r := rIn K true) op_notIn_seq (pv 1) (pv 2) rfl)))))
            (fun _ _ _ => pv 1)) pa_nil)) pa_nil))))))
      (pss_one (ps_ret (pe_callTy call_tuple_of (by rfl) T.tuple PyProof.Rows.boot_tuple (pa_cons (pe_callB call_sorted_txt (by rfl) T.sorted PyProof.Rows.boot_sorted (pa_cons (pv 2) pa_nil)) pa_nil))))), ?_⟩
    have fw := g.good.few
    refine ⟨_, rfl, u, _, rfl, .inl (SqL.of hu), fun fo hfo => ?_⟩
    refine ⟨12, rfl, by decide, by decide, for_range (n := 12) (ClI b u ns ps H) ⟨_, fo, zs, rfl, same_upd hfo, upd_same, nd, sub, .inr (List.length_pos_iff.mpr ne), ne⟩ ?_ ?_⟩
    · rintro i σ H2 _ ⟨v3, fo2, ys, rfl, s2, h2, nd2, sub2, gr, ne2⟩
      have le := nd_le nd2 sub2
      refine ⟨_, rfl, _, rfl, b, rfl, ⟨_, SqL.of (s2 _ _ hb)⟩, ?_⟩
      have lt : (ts.map V.ref).length = ps.length := by rw [List.length_map, hT.len]
      refine lc_list (K := K) (xs := ts.map V.ref) (fun j vs H3 => Same H2 H3 ∧ vs = (news (ps.take j) ys).map V.str) ⟨Same.refl _, rfl⟩ ?_ ?_ ?_ ?_
      · rintro j vs H3 hj ⟨_, rfl⟩
        rw [List.length_map]
        unfold news
        rw [List.length_map]
        exact Nat.le_trans (List.length_filter_le _ _) (Nat.le_trans (by rw [List.length_take]; exact Nat.min_le_right _ _) (Nat.le_trans g.few (by decide)))
      · rintro j vs H3 _ ⟨s3, _⟩
        exact SqL.of (s3 _ _ (s2 _ _ hb))
      · rintro j v vs H3 R hv ⟨s3, rfl⟩ kR
        rw [List.getElem?_map] at hv
        obtain ⟨t, et, rfl⟩ := Option.map_eq_some_iff.mp hv
        obtain ⟨p, ep, ht⟩ := hT.get et
        have fin : news (ps.take (j + 1)) ys = news (ps.take j) ys ++ (if out ys p = true then [p.2] else []) := by
          unfold news
          rw [List.take_add_one, ep, List.filter_append, List.map_append]
          congr 1
          simp only [Option.toList_some, List.filter_cons, List.filter_nil]
          split <;> rfl
        refine ⟨t, _, rfl, SqT.of (s3 _ _ (s2 _ _ ht)), rfl, _, _, rfl, _, _, rfl, rfl, ?_⟩
        refine ⟨_, rfl, _, rfl, fo2, _, rfl, .inl (SqL.of (s3 _ _ h2)), rfl, flat_strs ys, _, rfl, ?_⟩
        simp only [Bool.false_eq_true, if_false]
        rw [inV_str]
        by_cases h1 : p.1 ∈ ys
        · rw [decide_eq_true h1]
          refine iteT ⟨_, rfl, _, rfl, fo2, _, rfl, .inl (SqL.of (s3 _ _ h2)), rfl, flat_strs ys, _, rfl, ?_⟩
          simp only [if_true]
          rw [inV_str]
          by_cases h3 : p.2 ∈ ys
          · rw [decide_eq_true h3]
            refine iteF (kR _ _ ⟨s3, ?_⟩)
            rw [fin, if_neg (by simp [out, h3]), List.append_nil]
          · rw [decide_eq_false h3]
            refine iteT ⟨_, rfl, kR _ _ ⟨s3, ?_⟩⟩
            rw [fin, if_pos (by simp [out, h1, h3]), List.map_append]
            rfl
        · rw [decide_eq_false h1]
          refine iteF (kR _ _ ⟨s3, ?_⟩)
          rw [fin, if_neg (by simp [out, h1]), List.append_nil]
      · rintro vs H3 ⟨s3, rfl⟩ D0 hD0
        rw [lt, List.take_of_length_le (Nat.le_refl _)]
        have ln : (news ps ys).length ≤ 30 := by
          unfold news
          rw [List.length_map]
          exact Nat.le_trans (List.length_filter_le _ _) g.few
        have s4 := s3.trans (same_upd (o := .lst ((news ps ys).map V.str)) hD0)
        refine ⟨D0, news ps ys, rfl, .inl (SqL.of upd_same), Nat.lt_of_le_of_lt (Nat.succ_le_succ ln) (by decide), fun l1 hl1 => ?_⟩
        have s5 := s4.trans (same_upd (o := TxtO P w l1 (news ps ys)) hl1)
        refine ⟨l1, news ps ys, rfl, upd_same, by omega, fun l2 hl2 => ?_⟩
        have s6 := s5.trans (same_upd (o := .lst ((srt (dist (news ps ys))).map V.str)) hl2)
        have nd' : (grow ps ys).Nodup := grow_nd nd2
        have sub' := grow_in g.ins sub2
        have le' := nd_le nd' sub'
        have lg : ys.length + (srt (dist (news ps ys))).length = (grow ps ys).length := by unfold grow; rw [List.length_append]
        refine ⟨fo2, l2, _, _, rfl, rfl, s6 _ _ h2, upd_same, by rw [List.length_map, List.length_map, lg]; exact Nat.le_of_lt (small1000 (by omega)), fun l3 hl3 => ?_⟩
        refine ⟨_, l3, grow ps ys, rfl, s2.trans (s6.trans (same_upd hl3)), ?_, nd', sub', gr.next, fun e => ?_⟩
        · rw [upd_same]; unfold grow; rw [List.map_append]
        · have : (grow ps ys).length = 0 := by rw [e]; rfl
          have := List.length_pos_iff.mpr ne2
          omega
    · rintro σ H2 ⟨v3, fo2, ys, rfl, s2, h2, nd2, sub2, gr, ne2⟩
      have le := nd_le nd2 sub2
      have cl : closed ps ys = true := gr.elim id fun q => by omega
      refine ⟨_, rfl, fo2, ys, rfl, SqL.of h2, by omega, fun l hl => ⟨l, _, rfl, .inl ⟨SqL.of upd_same, fun t ht => ?_⟩⟩⟩
      exact k t (srt ys) _ upd_same ⟨srt_srt ys, srt_nd nd2, fun z hz => sub2 z (srt_mem.mp hz), fun e => ne2 (List.length_eq_zero_iff.mp (by rw [← srt_len, e]; rfl)), by rw [closed_congr fun z => srt_mem]; exact cl⟩ (s2.trans ((same_upd hl).trans (same_upd ht)))
end
end K34

set_option Elab.async false
set_option linter.all false
set_option maxRecDepth 100000
set_option maxHeartbeats 4000000
namespace K34
open PySem PySem.Spec PyProof.Rows L2
abbrev sCut : Stmt := top 39 -- _law_cut
abbrev sFam : Stmt := top 40 -- _law_family
section
variable {P : Program} {w : World} {K : PySem.W.Frag} {mg : Str → Option Value} {base : Heap}
/-! ### the law's own look at a cut: such as are cuts -/
/-! ### a cut, drawn -/
def spCut : Sp := fun vs H Q _ => ∃ (p a b : Addr) (ns : List Str) (ts : List Addr) (ps : List (Str × Str)), vs = [.ref p, .ref a, .ref b] ∧ Row H p ∧ a ≠ p ∧ b ≠ p ∧ H a = some (.lst (ns.map V.str)) ∧ H b = some (.lst (ts.map V.ref)) ∧ TiesAt H ts ps ∧ GoodW ns ps ∧
  ∀ (l : Addr) (zs : List Str) (H' : Hp), H' l = some (.tup (zs.map V.str)) → Shut ns ps zs → Row H' p → But p H H' → Q (.ref l) H'
abbrev nCu : List Str := ["_law_pot_here", "_law_names_here", "_law_ties", "_law_seeds", "_law_k", "_law_place"]
theorem scCu : FnScope nCu ["_law_pot_here", "_law_names_here", "_law_ties"] (defScope sCut) := ⟨rfl, rfl, rfl, by decide +kernel, rfl, by decide +kernel, by decide +kernel⟩
def CuI (p a b q : Addr) (ns : List Str) (ts : List Addr) (ps : List (Str × Str)) (H : Hp) (i : Nat) (σ : L2.St) (H2 : Hp) : Prop :=
  ∃ (v4 v5 : Option V) (ys : List Str), σ = [some (.ref p), some (.ref a), some (.ref b), some (.ref q), v4, v5] ∧ Row H2 p ∧ But p H H2 ∧ H2 q = some (.lst (ys.map V.str)) ∧ ys.Nodup ∧ (∀ z ∈ ys, z ∈ ns) ∧ (0 < i → ys ≠ [])
theorem ok_cut {f fD fC : Addr} {fd fdD fdC : FuncData} (F : Fun K "_law_cut" "_law_cut" sCut f fd) (D : Df K mg "_law_digit" sDigit ["_law_pot_here", "_law_many"] fD fdD) (DC : Df K mg "_law_closed" sClosed ["_law_ties", "_law_some"] fC fdC) (T : Glb mg) :
    FnOk P w K mg base CX0 2 f fd ["_law_pot_here", "_law_names_here", "_law_ties"] spCut := by
  have G : FnOk P w K mg base CX0 1 fD fdD ["_law_pot_here", "_law_many"] spDg := ok_digit D.fn T
  have GC : FnOk P w K mg base CX0 1 fC fdC ["_law_ties", "_law_some"] spClosed := ok_closed DC.fn T
  refine F.ok scCu (fun vs H Q E h => ?_) (fun cdv A outer s H vs Q E hr h => ?_)
  · obtain ⟨p, a, b, ns, ts, ps, rfl, _⟩ := h
    rfl
  · obtain ⟨p, a, b, ns, ts, ps, rfl, hp, nap, nbp, ha, hb, hT, g, k⟩ := h
    refine ⟨_, pss_cons (ps_set (i := 3) scCu.nd rfl (Or.inl rfl) (pe_lst pa_nil))
      (pss_cons (ps_for PassesOwn.never rfl (pi_range1 rfl T.range (pa_cons (pe_ix ix_list (pe_lst (pa_cons pe_int (pa_cons pe_int (pa_cons pe_int (pa_cons pe_int (pa_cons pe_int (pa_cons pe_int pa_nil))))))) (pe_call G hr rfl D.mgf D.fn.kp D.b .nil pass0 (pa_cons (pv 0) (pa_cons pe_int pa_nil))) (fun _ _ => rfl)) pa_nil)) (pg_name (i := 4) scCu.nd rfl (Or.inl rfl))
        (pss_cons (ps_set (i := 5) scCu.nd rfl (Or.inl rfl) (pe_ix ix_list (pv 1) (pe_call G hr rfl D.mgf D.fn.kp D.b .nil pass0 (pa_cons (pv 0) (pa_cons (pe_callB call_len_seq (by rfl) T.len PySem.boot_len (pa_cons (pv 1) pa_nil)) pa_nil))) (fun _ _ => rfl)))
        (pss_one (ps_if (pt_cmpR op_notIn_seq (pv 5) (pv 3) rfl) (pss_one (ps_expr (pe_bm PySem.F.plainAttrs_list PySem.F.slot_list_append PySem.F.type_list_append mt_append (pv 3) (pa_cons (pv 5) pa_nil)))) pss_nil))))
      (pss_one (ps_ret (pe_call GC hr rfl DC.mgf DC.fn.kp DC.b .nil pass0 (pa_cons (pv 2) (pa_cons (pv 3) pa_nil)))))), ?_⟩
    have fw := g.good.few
    have on := g.good.one
    refine ⟨(by decide), fun q hq => ?_⟩
    have npq : p ≠ q := ne_of_none hp.lst.choose_spec hq
    refine ⟨(by show 6 ≤ sizeLine; decide), fun l0 hl0 => ?_⟩
    have npl : p ≠ l0 := ne_of_none (hp.upd_ne npq).lst.choose_spec hl0
    have nql : q ≠ l0 := ne_of_none upd_same hl0
    have Hl0 : H l0 = none := by
      cases e : H l0 with
      | none => rfl
      | some o => rw [L2.upd_ne (ne_of_none e hq)] at hl0; rw [hl0] at e; cases e
    refine ⟨_, rfl, p, 6, rfl, (hp.upd_ne npq).upd_ne npl, by decide, by decide, fun d0 H0 d0a d0b hp0 b0 => ?_⟩
    have b00 : But p H H0 := (((But.refl p H).upd_new hq).upd_new Hl0).trans b0
    have hq0 := b0 _ _ (by rw [L2.upd_ne nql]; exact upd_same) (Ne.symm npq)
    have hl := b0 _ _ upd_same (Ne.symm npl)
    obtain ⟨mm, em, mm0, mm5⟩ : ∃ mm : Int, atI [V.int 1, V.int 1, V.int 2, V.int 2, V.int 3, V.int 5] d0 = some (.int mm) ∧ 0 < mm ∧ mm ≤ 5 := by
      have : d0 = 0 ∨ d0 = 1 ∨ d0 = 2 ∨ d0 = 3 ∨ d0 = 4 ∨ d0 = 5 := by omega
      rcases this with rfl | rfl | rfl | rfl | rfl | rfl
      · exact ⟨1, rfl, by decide, by decide⟩
      · exact ⟨1, rfl, by decide, by decide⟩
      · exact ⟨2, rfl, by decide, by decide⟩
      · exact ⟨2, rfl, by decide, by decide⟩
      · exact ⟨3, rfl, by decide, by decide⟩
      · exact ⟨5, rfl, by decide, by decide⟩
    refine ⟨l0, _, _, _, rfl, rfl, SqL.of hl, em, _, rfl, by omega, by omega, ?_⟩
    have hlen : ((ns.map V.str).length : Int) = ns.length := by rw [List.length_map]
    refine for_range (CuI p a b q ns ts ps H) ⟨_, _, [], rfl, hp0, b00, hq0, List.nodup_nil, (fun _ z => nomatch z), (fun z => absurd z (by decide))⟩ ?_ ?_
    · rintro i σ H2 hi ⟨v4, v5, ys, rfl, hp2, b2, hq2, nd, sub, _⟩
      have ha2 := b2 _ _ ha nap
      refine ⟨_, rfl, _, rfl, _, rfl, a, _, rfl, .inl (SqL.of ha2), p, _, rfl, hp2, by rw [hlen]; omega, by rw [hlen]; omega, fun d H3 d1 d2 hp3 b3 => ?_⟩
      rw [hlen] at d2
      obtain ⟨m, rfl⟩ := Int.eq_ofNat_of_zero_le d1
      have hm : m < ns.length := by omega
      have ha3 := b3 _ _ ha2 nap
      have hq3 := b3 _ _ hq2 (Ne.symm npq)
      refine ⟨a, _, _, _, rfl, rfl, SqL.of ha3, atI_nat (j := m) (v := .str ns[m]) (by simp [hm]), ?_⟩
      have mem : ns[m] ∈ ns := List.getElem_mem hm
      generalize ns[m] = z at mem ⊢
      refine ⟨_, rfl, _, rfl, q, _, rfl, .inl (SqL.of hq3), rfl, flat_strs ys, _, rfl, ?_⟩
      simp only [if_true]
      rw [inV_str]
      by_cases hin : z ∈ ys
      · rw [decide_eq_true hin]
        exact iteF ⟨_, _, ys, rfl, hp3, b2.trans b3, hq3, nd, sub, fun _ => List.ne_nil_of_mem hin⟩
      · rw [decide_eq_false hin]
        have le := nd_le nd sub
        refine iteT ⟨_, rfl, .inl ⟨rfl, _, SqL.of hq3⟩, _, rfl, q, _, _, rfl, rfl, hq3, (by rw [List.length_map]; exact small1000 (by omega)), ?_⟩
        refine ⟨_, _, ys ++ [z], rfl, hp3.upd_ne npq, (b2.trans b3).upd_new hq, ?_, nd_snoc nd hin, ?_, fun _ => by simp⟩
        · rw [upd_same]; simp
        · intro y hy
          rcases List.mem_append.mp hy with h | h
          · exact sub y h
          · rw [List.mem_singleton.mp h]; exact mem
    · rintro σ H2 ⟨v4, v5, ys, rfl, hp2, b2, hq2, nd, sub, ne⟩
      have rl := hp.lst
      refine ⟨_, rfl, _, rfl, b, q, ns, ys, ts, ps, rfl, b2 _ _ hb nbp, hT.but b2 (fun xs z => by obtain ⟨x, e⟩ := rl; rw [e] at z; cases z), g, hq2, nd, sub, ne (by omega), fun l zs H3 hl3 sh s3 => ?_⟩
      exact k l zs H3 hl3 sh (let ⟨x, y, e⟩ := hp2; ⟨x, y, s3 _ _ e⟩) (fun c o e n => s3 _ _ (b2 c o e n))
end
end K34

set_option Elab.async false
set_option linter.all false
set_option maxRecDepth 100000
set_option maxHeartbeats 4000000
namespace K34
open PySem PySem.Spec PyProof.Rows L2
abbrev sCross : Stmt := top 41 -- _law_cross
/-- tuples of texts -/
def CutsAt (H : Hp) : List Addr → List (List Str) → Prop := Paired fun u zs => H u = some (.tup (zs.map V.str))
theorem CutsAt.mono {H H' : Hp} {us : List Addr} {zss : List (List Str)} (h : CutsAt H us zss) (k : ∀ t xs, H t = some (.tup xs) → H' t = some (.tup xs)) : CutsAt H' us zss := Paired.mapP h fun t p e => k t _ e
theorem CutsAt.same {H H' : Hp} {us : List Addr} {zss : List (List Str)} (h : CutsAt H us zss) (s : Same H H') : CutsAt H' us zss := h.mono fun t xs e => s t _ e
theorem CutsAt.but {p : Addr} {H H' : Hp} {us : List Addr} {zss : List (List Str)} (h : CutsAt H us zss) (s : But p H H') (r : Row H p) : CutsAt H' us zss := h.mono fun t xs e => s t _ e fun z => by obtain ⟨x, y, q⟩ := r; rw [z, q] at e; cases e
theorem CutsAt.len {H : Hp} {us : List Addr} {zss : List (List Str)} (h : CutsAt H us zss) : us.length = zss.length := Paired.length h
theorem CutsAt.get {H : Hp} : ∀ {us : List Addr} {zss : List (List Str)} {i : Nat} {u : Addr}, CutsAt H us zss → us[i]? = some u → ∃ zs, zss[i]? = some zs ∧ H u = some (.tup (zs.map V.str))
  | _, _, _, _, .nil, e => by simp at e
  | _, _, 0, _, .cons h _, e => by simp at e; subst e; exact ⟨_, rfl, h⟩
  | _, _, i + 1, _, .cons _ t, e => by simp at e; obtain ⟨zs, e2, h⟩ := CutsAt.get t e; exact ⟨zs, by simpa using e2, h⟩
theorem CutsAt.snoc {H : Hp} {us : List Addr} {zss : List (List Str)} {u : Addr} {zs : List Str} (h : CutsAt H us zss) (e : H u = some (.tup (zs.map V.str))) : CutsAt H (us ++ [u]) (zss ++ [zs]) := Paired.snoc h e
/-- a cut of the web -/
structure IsC (ns : List Str) (ps : List (Str × Str)) (zs : List Str) : Prop where
  shut : Shut ns ps zs
  less : zs.length < ns.length
theorem Row.same {H H' : Hp} {p : Addr} (r : Row H p) (s : Same H H') : Row H' p := let ⟨x, y, e⟩ := r; ⟨x, y, s _ _ e⟩
section
variable {P : Program} {w : World} {K : PySem.W.Frag} {mg : Str → Option Value} {base : Heap}
/-! ### a family, drawn -/
def spFam : Sp := fun vs H Q _ => ∃ (p a b : Addr) (ns : List Str) (ts : List Addr) (ps : List (Str × Str)) (mst : Nat), vs = [.ref p, .ref a, .ref b, .int mst] ∧ mst ≤ 30 ∧ Row H p ∧ a ≠ p ∧ b ≠ p ∧ H a = some (.lst (ns.map V.str)) ∧ H b = some (.lst (ts.map V.ref)) ∧ TiesAt H ts ps ∧ GoodW ns ps ∧
  ∀ (l : Addr) (us : List Addr) (zss : List (List Str)) (H' : Hp), H l = none → H' l = some (.lst (us.map V.ref)) → CutsAt H' us zss → (∀ zs ∈ zss, IsC ns ps zs) → us.length ≤ mst → Row H' p → But p H H' → Q (.ref l) H'
abbrev nFa : List Str := ["_law_pot_here", "_law_names_here", "_law_ties", "_law_most", "_law_found", "_law_k", "_law_cut_here"]
theorem scFa : FnScope nFa ["_law_pot_here", "_law_names_here", "_law_ties", "_law_most"] (defScope sFam) := ⟨rfl, rfl, rfl, by decide +kernel, rfl, by decide +kernel, by decide +kernel⟩
def FaI (mst : Nat) (p a b q : Addr) (ns : List Str) (ps : List (Str × Str)) (H : Hp) (i : Nat) (σ : L2.St) (H2 : Hp) : Prop :=
  ∃ (v5 v6 : Option V) (us : List Addr) (zss : List (List Str)), σ = [some (.ref p), some (.ref a), some (.ref b), some (.int mst), some (.ref q), v5, v6] ∧ Row H2 p ∧ But p H H2 ∧ H2 q = some (.lst (us.map V.ref)) ∧ CutsAt H2 us zss ∧ (∀ zs ∈ zss, IsC ns ps zs) ∧ us.length ≤ i
theorem ok_fam {f fD fC fK : Addr} {fd fdD fdC fdK : FuncData} (F : Fun K "_law_family" "_law_family" sFam f fd) (D : Df K mg "_law_digit" sDigit ["_law_pot_here", "_law_many"] fD fdD) (DC : Df K mg "_law_closed" sClosed ["_law_ties", "_law_some"] fC fdC)
    (DK : Df K mg "_law_cut" sCut ["_law_pot_here", "_law_names_here", "_law_ties"] fK fdK) (T : Glb mg) : FnOk P w K mg base CX0 3 f fd ["_law_pot_here", "_law_names_here", "_law_ties", "_law_most"] spFam := by
  have G : FnOk P w K mg base CX0 1 fD fdD ["_law_pot_here", "_law_many"] spDg := ok_digit D.fn T
  have GK : FnOk P w K mg base CX0 2 fK fdK ["_law_pot_here", "_law_names_here", "_law_ties"] spCut := ok_cut DK.fn D DC T
  refine F.ok scFa (fun vs H Q E h => ?_) (fun cdv A outer s H vs Q E hr h => ?_)
  · obtain ⟨p, a, b, ns, ts, ps, mst, rfl, _⟩ := h
    rfl
  · obtain ⟨p, a, b, ns, ts, ps, mst, rfl, m30, hp, nap, nbp, ha, hb, hT, g, k⟩ := h
    have h1 := hr.mono (j := 1) (by decide)
    refine ⟨_, pss_cons (ps_set (i := 4) scFa.nd rfl (Or.inl rfl) (pe_lst pa_nil))
      (pss_cons (ps_for PassesOwn.never rfl (pi_range1 rfl T.range (pa_cons (pe_call G h1 rfl D.mgf D.fn.kp D.b .nil pass0 (pa_cons (pv 0) (pa_cons (pe_op op_add (pv 3) pe_int) pa_nil))) pa_nil)) (pg_name (i := 5) scFa.nd rfl (Or.inl rfl))
        (pss_cons (ps_set (i := 6) scFa.nd rfl (Or.inl rfl) (pe_call GK hr rfl DK.mgf DK.fn.kp DK.b .nil pass0 (pa_cons (pv 0) (pa_cons (pv 1) (pa_cons (pv 2) pa_nil)))))
        (pss_cons (ps_if (PW.pt (pw_and (pt_cmpR (op_ne_nil (low 0 hr)) (pv 4) (pe_lst pa_nil) (nomark _)) (pw_and1 (pt_cmpR op_eq (pe_call G h1 rfl D.mgf D.fn.kp D.b .nil pass0 (pa_cons (pv 0) (pa_cons pe_int pa_nil))) pe_int (nomark _)))))
          (pss_one (ps_set (i := 6) scFa.nd rfl (Or.inl rfl) (pe_ix ix_list (pv 4) (pe_call G h1 rfl D.mgf D.fn.kp D.b .nil pass0 (pa_cons (pv 0) (pa_cons (pe_callB call_len_seq (by rfl) T.len PySem.boot_len (pa_cons (pv 4) pa_nil)) pa_nil))) (fun _ _ => rfl)))) pss_nil)
        (pss_one (ps_if (pt_cmpR op_lt (pe_callB call_len_seq (by rfl) T.len PySem.boot_len (pa_cons (pv 6) pa_nil)) (pe_callB call_len_seq (by rfl) T.len PySem.boot_len (pa_cons (pv 1) pa_nil)) (nomark _))
          (pss_one (ps_expr (pe_bm PySem.F.plainAttrs_list PySem.F.slot_list_append PySem.F.type_list_append mt_append (pv 4) (pa_cons (pv 6) pa_nil)))) pss_nil)))))
      (pss_one (ps_ret (pv 4)))), ?_⟩
    refine ⟨(by decide), fun q hq => ?_⟩
    have npq : p ≠ q := ne_of_none hp.lst.choose_spec hq
    refine ⟨_, rfl, _, rfl, _, _, rfl, rfl, p, _, rfl, hp.upd_ne npq, by omega, by omega, fun d0 H0 d0a d0b hp0 b0 => ?_⟩
    refine ⟨_, rfl, by omega, by omega, ?_⟩
    refine for_range (FaI mst p a b q ns ps H) ⟨_, _, [], [], rfl, hp0, ((But.refl p H).upd_new hq).trans b0, b0 _ _ upd_same (Ne.symm npq), .nil, (fun _ z => nomatch z), Nat.le_refl _⟩ ?_ ?_
    · rintro i σ H2 hi ⟨v5, v6, us, zss, rfl, hp2, b2, hq2, hC, all, hl⟩
      have i8 : i ≤ 30 := by omega
      have hT2 : TiesAt H2 ts ps := hT.but b2 (fun xs z => by obtain ⟨x, e⟩ := hp.lst; rw [e] at z; cases z)
      refine ⟨_, rfl, _, rfl, _, rfl, p, a, b, ns, ts, ps, rfl, hp2, nap, nbp, b2 _ _ ha nap, b2 _ _ hb nbp, hT2, g, fun l zs H3 hl3 sh hp3 b3 => ?_⟩
      have hq3 := b3 _ _ hq2 (Ne.symm npq)
      have hC3 := hC.but b3 hp2
      have b03 := b2.trans b3
      -- the last test
      have fin : ∀ (D : Ends), D.nx = FaI mst p a b q ns ps H (i + 1) → ∀ (c : Addr) (zs : List Str) (H8 : Hp), H8 c = some (.tup (zs.map V.str)) → Shut ns ps zs → Row H8 p → But p H H8 → H8 q = some (.lst (us.map V.ref)) → CutsAt H8 us zss →
          tIfS (tTest (tOp (rI0 fun i j => .bl (decide (i < j))) (tCB (fun xs H Q => ∃ p ys, xs = [V.ref p] ∧ (SqL K H p ys ∨ SqT K H p ys) ∧ Q (V.int ys.length) H) (tCons (tVar 6) tNil)) (tCB (fun xs H Q => ∃ p ys, xs = [V.ref p] ∧ (SqL K H p ys ∨ SqT K H p ys) ∧ Q (V.int ys.length) H) (tCons (tVar 1) tNil))))
            (tDrop (tBM K "list" rAppend (tVar 4) (tCons (tVar 6) tNil))) tNext D
            [some (V.ref p), some (V.ref a), some (V.ref b), some (V.int mst), some (V.ref q), some (V.int (0 + i)), some (V.ref c)] H8 := by
        intro D0 hD c zs H8 hc sh8 hp8 b8 hq8 hC8
        refine ⟨_, rfl, c, _, rfl, .inr (SqT.of hc), _, rfl, a, _, rfl, .inl (SqL.of (b8 _ _ ha nap)), _, _, rfl, rfl, _, rfl, ?_⟩
        refine ite2 (fun hlt => ?_) (fun _ => ?_)
        · have hlt' : zs.length < ns.length := by simpa using hlt
          refine ⟨_, rfl, .inl ⟨rfl, _, SqL.of hq8⟩, _, rfl, q, _, _, rfl, rfl, hq8, (by rw [List.length_map]; exact small1000 (by omega)), ?_⟩
          rw [hD]
          refine ⟨_, _, us ++ [c], zss ++ [zs], rfl, hp8.upd_ne npq, b8.upd_new hq, by rw [upd_same]; simp, CutsAt.snoc (hC8.mono fun t xs e => ?_) ?_, ?_, by simp; omega⟩
          · rw [L2.upd_ne (ne_of e hq8 (by intro z; cases z))]; exact e
          · rw [L2.upd_ne (ne_of hc hq8 (by intro z; cases z))]; exact hc
          · intro z hz
            rcases List.mem_append.mp hz with h | h
            · exact all z h
            · rw [List.mem_singleton.mp h]; exact ⟨sh8, hlt'⟩
        · show D0.nx _ _
          rw [hD]
          exact ⟨_, _, us, zss, rfl, hp8, b8, hq8, hC8, all, Nat.le_succ_of_le hl⟩
      refine ⟨_, rfl, (by decide), fun e he => ?_⟩
      have npe : p ≠ e := ne_of_none hp3.lst.choose_spec he
      have He : H e = none := b03.none he (Ne.symm npe)
      have se := same_upd (o := .lst []) he
      refine ⟨q, e, _, rfl, rfl, SqL.of (se _ _ hq3), SqL.of upd_same, _, rfl, ?_⟩
      have hp4 := hp3.same se
      have b4 : But p H (upd H3 e (.lst [])) := b03.upd_new He
      have hq4 := se _ _ hq3
      have hC4 := hC3.same se
      have hl4 := se _ _ hl3
      generalize upd H3 e (.lst []) = H4 at se hp4 b4 hq4 hC4 hl4 ⊢
      refine ite2 (fun hne => ?_) (fun _ => fin _ rfl l zs H4 hl4 sh hp4 b4 hq4 hC4)
      have hne' : us ≠ [] := fun z => by subst z; simp at hne
      refine ⟨_, rfl, p, _, rfl, hp4, by decide, by decide, fun d5 H5 _ _ hp5 b5 => ?_⟩
      have hl5 : H5 l = some (.tup (zs.map V.str)) := b5 _ _ hl4 fun z => by obtain ⟨x, y, q⟩ := hp4; rw [z, q] at hl4; cases hl4
      have hq5 := b5 _ _ hq4 (Ne.symm npq)
      have hC5 := hC4.but b5 hp4
      refine ⟨rfl, _, rfl, ?_⟩
      refine ite2 (fun _ => ?_) (fun _ => fin _ rfl l zs H5 hl5 sh hp5 (b4.trans b5) hq5 hC5)
      have lu : ((us.map V.ref).length : Int) = us.length := by rw [List.length_map]
      have pu := List.length_pos_iff.mpr hne'
      refine ⟨_, rfl, _, rfl, _, rfl, q, _, rfl, .inl (SqL.of hq5), p, _, rfl, hp5, by rw [lu]; omega, by rw [lu]; omega, fun d6 H6 d6a d6b hp6 b6 => ?_⟩
      rw [lu] at d6b
      obtain ⟨m, rfl⟩ := Int.eq_ofNat_of_zero_le d6a
      have hm : m < us.length := by omega
      have hq6 := b6 _ _ hq5 (Ne.symm npq)
      have hC6 := hC5.but b6 hp5
      obtain ⟨ws, ew, hw⟩ := hC6.get (show us[m]? = some us[m] by simp [hm])
      refine ⟨q, _, _, _, rfl, rfl, SqL.of hq6, atI_nat (j := m) (v := .ref us[m]) (by simp [hm]), ?_⟩
      exact fin _ rfl us[m] ws H6 hw (all ws (List.mem_of_getElem? ew)).shut hp6 ((b4.trans b5).trans b6) hq6 hC6
    · rintro σ H2 ⟨v5, v6, us, zss, rfl, hp2, b2, hq2, hC, all, hl⟩
      exact ⟨_, rfl, k q us zss H2 hq hq2 hC all (by omega) hp2 b2⟩
end
end K34

set_option Elab.async false
set_option linter.all false
set_option maxRecDepth 100000
set_option maxHeartbeats 4000000
namespace L2
open PySem PySem.Spec PyProof.Rows
theorem flt_step {f : Str → Bool} {xs : List Str} {i : Nat} {z : Str} (h : xs[i]? = some z) : ((xs.take (i + 1)).filter f).map V.str = ((xs.take i).filter f).map V.str ++ (if f z = true then [V.str z] else []) := by
  rw [List.take_add_one, h, List.filter_append, List.map_append]
  congr 1
  simp only [Option.toList_some, List.filter_cons, List.filter_nil]
  split <;> rfl
theorem flt_le {f : Str → Bool} {xs : List Str} {i : Nat} (hx : xs.length ≤ 1000) : (((xs.take i).filter f).map V.str).length ≤ sizeLine := by
  rw [List.length_map]
  exact Nat.le_trans (List.length_filter_le _ _) (Nat.le_trans (by rw [List.length_take]; exact Nat.min_le_right _ _) (Nat.le_of_lt (small1000 hx)))
section
variable {K : PySem.W.Frag} {a : Addr} {xs : List Str} {own : List Str} {fr : List Nat} {tt : TT} {te : TE} {σ : St} {Q : VK} {H : Hp}
/-- [z for z in a list of texts if ..] -/
theorem flt_l (hx : xs.length ≤ 1000) (ha : H a = some (.lst (xs.map V.str))) (f : Str → Bool)
    (ht : ∀ z H2 (R : Bool → Hp → Prop), z ∈ xs → Same H H2 → R (f z) H2 → tt ((cSt own fr σ).set 0 (some (.str z))) H2 R) (he : ∀ z H2 (R : VK), R (.str z) H2 → te ((cSt own fr σ).set 0 (some (.str z))) H2 R)
    (k : ∀ D H2, Same H H2 → H2 D = none → Q (.ref D) (upd H2 D (.lst ((xs.filter f).map V.str)))) : lcLoop own fr (gName 0) tt te σ Q (Itl K a) H := by
  refine lc_list (K := K) (xs := xs.map V.str) (fun j ys H2 => Same H H2 ∧ ys = ((xs.take j).filter f).map V.str) ⟨Same.refl _, rfl⟩ ?_ ?_ ?_ ?_
  · rintro i ys H2 _ ⟨_, rfl⟩
    exact flt_le hx
  · rintro i ys H2 _ ⟨s2, _⟩
    exact SqL.of (s2 _ _ ha)
  · rintro i v ys H2 R hv ⟨s2, rfl⟩ kR
    rw [List.getElem?_map] at hv
    obtain ⟨z, ez, rfl⟩ := Option.map_eq_some_iff.mp hv
    refine ht z H2 _ (List.mem_of_getElem? ez) s2 ?_
    have e := flt_step (f := f) ez
    by_cases hf : f z = true
    · rw [if_pos hf] at e ⊢
      exact he z H2 _ (kR _ _ ⟨s2, e.symm⟩)
    · rw [if_neg hf] at e ⊢
      exact kR _ _ ⟨s2, by rw [e, List.append_nil]⟩
  · rintro ys H2 ⟨s2, rfl⟩ D hD
    rw [List.length_map, List.take_of_length_le (Nat.le_refl _)]
    exact k D H2 s2 hD
theorem flt_t (hx : xs.length ≤ 1000) (ha : H a = some (.tup (xs.map V.str))) (f : Str → Bool)
    (ht : ∀ z H2 (R : Bool → Hp → Prop), z ∈ xs → Same H H2 → R (f z) H2 → tt ((cSt own fr σ).set 0 (some (.str z))) H2 R) (he : ∀ z H2 (R : VK), R (.str z) H2 → te ((cSt own fr σ).set 0 (some (.str z))) H2 R)
    (k : ∀ D H2, Same H H2 → H2 D = none → Q (.ref D) (upd H2 D (.lst ((xs.filter f).map V.str)))) : lcLoop own fr (gName 0) tt te σ Q (Itt K a) H := by
  refine lc_tup (K := K) (xs := xs.map V.str) (fun j ys H2 => Same H H2 ∧ ys = ((xs.take j).filter f).map V.str) ⟨Same.refl _, rfl⟩ ?_ ?_ ?_ ?_
  · rintro i ys H2 _ ⟨_, rfl⟩
    exact flt_le hx
  · rintro i ys H2 _ ⟨s2, _⟩
    exact SqT.of (s2 _ _ ha)
  · rintro i v ys H2 R hv ⟨s2, rfl⟩ kR
    rw [List.getElem?_map] at hv
    obtain ⟨z, ez, rfl⟩ := Option.map_eq_some_iff.mp hv
    refine ht z H2 _ (List.mem_of_getElem? ez) s2 ?_
    have e := flt_step (f := f) ez
    by_cases hf : f z = true
    · rw [if_pos hf] at e ⊢
      exact he z H2 _ (kR _ _ ⟨s2, e.symm⟩)
    · rw [if_neg hf] at e ⊢
      exact kR _ _ ⟨s2, by rw [e, List.append_nil]⟩
  · rintro ys H2 ⟨s2, rfl⟩ D hD
    rw [List.length_map, List.take_of_length_le (Nat.le_refl _)]
    exact k D H2 s2 hD
end
end L2
namespace K34
open PySem PySem.Spec PyProof.Rows L2
/-! ### two sets of places -/
def both (ns xs ys : List Str) : List Str := ns.filter fun z => decide (z ∈ xs) && decide (z ∈ ys)
def either (ns xs ys : List Str) : List Str := ns.filter fun z => decide (z ∈ xs) || decide (z ∈ ys)
def alone (xs ys : List Str) : List Str := xs.filter fun z => !decide (z ∈ ys)
def crossL (ns xs ys : List Str) : Bool := !(decide (alone xs ys = []) || decide (alone ys xs = []) || decide ((alone xs ys).length = xs.length)) && decide (xs.length + (alone ys xs).length < ns.length)
def crossP (ns xs ys : List Str) : Bool := decide (1 ≤ (both ns xs ys).length) && decide ((both ns xs ys).length < min xs.length ys.length) && decide ((either ns xs ys).length < ns.length)
theorem len_same {l m : List Str} (hl : l.Nodup) (hm : m.Nodup) (h : ∀ x, x ∈ l ↔ x ∈ m) : l.length = m.length := Nat.le_antisymm (nd_le hl fun x q => (h x).mp q) (nd_le hm fun x q => (h x).mpr q)
theorem len_parts (f : Str → Bool) : ∀ xs : List Str, (xs.filter f).length + (xs.filter fun z => !f z).length = xs.length
  | [] => rfl
  | x :: xs => by
    have := len_parts f xs
    rw [List.filter_cons, List.filter_cons]
    cases f x <;> simp <;> omega
theorem both_len {ns xs ys : List Str} (nn : ns.Nodup) (nx : xs.Nodup) (sx : ∀ z ∈ xs, z ∈ ns) : (both ns xs ys).length + (alone xs ys).length = xs.length := by
  rw [← len_parts (fun z => decide (z ∈ ys)) xs]
  congr 1
  refine len_same (nn.filter _) (nx.filter _) fun z => ?_
  simp only [both, List.mem_filter, Bool.and_eq_true, decide_eq_true_eq]
  exact ⟨fun h => h.2, fun h => ⟨sx z h.1, h⟩⟩
theorem both_comm (ns xs ys : List Str) : both ns xs ys = both ns ys xs := by unfold both; congr 1; funext z; exact Bool.and_comm _ _
theorem either_comm (ns xs ys : List Str) : either ns xs ys = either ns ys xs := by unfold either; congr 1; funext z; exact Bool.or_comm _ _
theorem either_len {ns xs ys : List Str} (nn : ns.Nodup) (nx : xs.Nodup) (ny : ys.Nodup) (sx : ∀ z ∈ xs, z ∈ ns) (sy : ∀ z ∈ ys, z ∈ ns) : (either ns xs ys).length = xs.length + (alone ys xs).length := by
  rw [← List.length_append]
  refine len_same (nn.filter _) (List.nodup_append.mpr ⟨nx, ny.filter _, fun a ha b hb e => ?_⟩) fun z => ?_
  · have := (List.mem_filter.mp hb).2
    rw [← e] at this
    simp [ha] at this
  · simp only [either, alone, List.mem_filter, Bool.or_eq_true, decide_eq_true_eq, List.mem_append, Bool.not_eq_true', decide_eq_false_iff_not]
    constructor
    · rintro ⟨h1, h2⟩
      by_cases q : z ∈ xs
      · exact .inl q
      · exact .inr ⟨h2.resolve_left q, q⟩
    · rintro (h | ⟨h, _⟩)
      · exact ⟨sx z h, .inl h⟩
      · exact ⟨sy z h, .inr h⟩
theorem cross_eq {ns xs ys : List Str} (nn : ns.Nodup) (nx : xs.Nodup) (ny : ys.Nodup) (sx : ∀ z ∈ xs, z ∈ ns) (sy : ∀ z ∈ ys, z ∈ ns) : crossL ns xs ys = crossP ns xs ys := by
  have h1 := both_len (ys := ys) nn nx sx
  have h2 := both_len (ys := xs) nn ny sy
  rw [both_comm] at h2
  have h3 := either_len nn nx ny sx sy
  unfold crossL crossP
  rw [h3]
  have e1 : (alone xs ys = []) ↔ (alone xs ys).length = 0 := List.length_eq_zero_iff.symm
  have e2 : (alone ys xs = []) ↔ (alone ys xs).length = 0 := List.length_eq_zero_iff.symm
  rw [Bool.eq_iff_iff]
  simp only [Bool.and_eq_true, Bool.not_eq_true', Bool.or_eq_false_iff, decide_eq_true_eq, decide_eq_false_iff_not, e1, e2]
  omega
theorem crossP_comm (ns xs ys : List Str) : crossP ns xs ys = crossP ns ys xs := by
  unfold crossP; rw [both_comm, either_comm, Nat.min_comm]
end K34

set_option Elab.async false
set_option linter.all false
set_option maxRecDepth 100000
set_option maxHeartbeats 4000000
namespace K34
open PySem PySem.Spec PyProof.Rows L2
abbrev sChkF : Stmt := top 22 -- check_family
abbrev sHBB : Stmt := top 23 -- had_by_both
abbrev sHBO : Stmt := top 24 -- had_by_one
abbrev sAre : Stmt := top 25 -- are_crossing
section
variable {P : Program} {w : World} {K : PySem.W.Frag} {mg : Str → Option Value} {base : Heap}
/-! ### the law's own word whether two cross -/
def spLCross : Sp := fun vs H Q _ => ∃ (a u v : Addr) (ns xs ys : List Str), vs = [.ref a, .ref u, .ref v] ∧ H a = some (.lst (ns.map V.str)) ∧ H u = some (.tup (xs.map V.str)) ∧ H v = some (.tup (ys.map V.str)) ∧ xs.length ≤ 12 ∧ ys.length ≤ 12 ∧ ∀ H', Same H H' → Q (.bl (crossL ns xs ys)) H'
abbrev nLX : List Str := ["_law_names_here", "_law_one", "_law_other", "_law_alone", "_law_others"]
theorem scLX : FnScope nLX ["_law_names_here", "_law_one", "_law_other"] (defScope sCross) := ⟨rfl, rfl, rfl, by decide +kernel, rfl, by decide +kernel, by decide +kernel⟩
theorem ok_lcross {f : Addr} {fd : FuncData} (F : Fun K "_law_cross" "_law_cross" sCross f fd) (T : Glb mg) : FnOk P w K mg base CX0 1 f fd ["_law_names_here", "_law_one", "_law_other"] spLCross := by
  refine F.ok scLX (fun vs H Q E h => ?_) (fun cdv A outer s H vs Q E hr h => ?_)
  · obtain ⟨a, u, v, ns, xs, ys, rfl, _⟩ := h
    rfl
  · obtain ⟨a, u, v, ns, xs, ys, rfl, ha, hu, hv, lx, ly, k⟩ := h
    refine ⟨_, pss_cons (ps_setL (i := 3) ["_law_place"] [2] scLX.nd rfl rfl rfl (compSc (osc := (defScope sCross).names) (N := nLX) rfl rfl (by decide +kernel)) (gk_name (by decide)) (pi_tup (pv 1))
          (fun _ _ _ => pg_name (i := 0) (show (["_law_place", "_law_other"] : List Str).Nodup by decide +kernel) rfl (Or.inl rfl)) (fun _ _ _ => pifs_one (pt_cmpR (r := rIn K true) op_notIn_seq (pv 0) (pv 1) rfl)) (fun _ _ _ => pv 0))
      (pss_cons (ps_setL (i := 4) ["_law_place"] [1] scLX.nd rfl rfl rfl (compSc (osc := (defScope sCross).names) (N := nLX) rfl rfl (by decide +kernel)) (gk_name (by decide)) (pi_tup (pv 2))
          (fun _ _ _ => pg_name (i := 0) (show (["_law_place", "_law_one"] : List Str).Nodup by decide +kernel) rfl (Or.inl rfl)) (fun _ _ _ => pifs_one (pt_cmpR (r := rIn K true) op_notIn_seq (pv 0) (pv 1) rfl)) (fun _ _ _ => pv 0))
      (pss_cons (ps_if (PW.pt (pw_or (pt_cmpR (op_eq_nil (low 0 hr)) (pv 3) (pe_lst pa_nil) (nomark _)) (pw_or (pt_cmpR (op_eq_nil (low 0 hr)) (pv 4) (pe_lst pa_nil) (nomark _)) (pw_or1 (pt_cmpR op_eq (pe_callB call_len_seq (by rfl) T.len PySem.boot_len (pa_cons (pv 3) pa_nil)) (pe_callB call_len_seq (by rfl) T.len PySem.boot_len (pa_cons (pv 1) pa_nil)) (nomark _)))))) (pss_one (ps_ret pe_bl)) pss_nil)
      (pss_one (ps_ret (pe_cmpR op_lt (pe_op op_add (pe_callB call_len_seq (by rfl) T.len PySem.boot_len (pa_cons (pv 1) pa_nil)) (pe_callB call_len_seq (by rfl) T.len PySem.boot_len (pa_cons (pv 4) pa_nil))) (pe_callB call_len_seq (by rfl) T.len PySem.boot_len (pa_cons (pv 0) pa_nil)) (nomark _)))))), ?_⟩
    refine ⟨_, rfl, u, rfl, ⟨_, SqT.of hu⟩, flt_t (K := K) (xs := xs) (by omega) hu (fun z => !decide (z ∈ ys)) (fun z H2 R _ s2 q => ?_) (fun z H2 R q => ⟨_, rfl, q⟩) fun D H2 s2 hD => ?_⟩
    · refine ⟨_, rfl, _, rfl, v, _, rfl, .inr (SqT.of (s2 _ _ hv)), rfl, flat_strs ys, _, rfl, ?_⟩
      simp only [if_true]
      rw [inV_str]
      exact q
    have s3 := s2.trans (same_upd (o := .lst ((alone xs ys).map V.str)) hD)
    have hD3 := upd_same (H := H2) (a := D) (o := .lst ((alone xs ys).map V.str))
    change tSeq _ _ _ _ (upd H2 D (.lst ((alone xs ys).map V.str))) 
    generalize upd H2 D (.lst ((alone xs ys).map V.str)) = H3 at s3 hD3 ⊢
    refine ⟨_, rfl, v, rfl, ⟨_, SqT.of (s3 _ _ hv)⟩, flt_t (K := K) (xs := ys) (by omega) (s3 _ _ hv) (fun z => !decide (z ∈ xs)) (fun z H4 R _ s4 q => ?_) (fun z H4 R q => ⟨_, rfl, q⟩) fun D2 H4 s4 hD2 => ?_⟩
    · refine ⟨_, rfl, _, rfl, u, _, rfl, .inr (SqT.of (s4 _ _ (s3 _ _ hu))), rfl, flat_strs xs, _, rfl, ?_⟩
      simp only [if_true]
      rw [inV_str]
      exact q
    have s5 := s3.trans (s4.trans (same_upd (o := .lst ((alone ys xs).map V.str)) hD2))
    have hD5 : (upd H4 D2 (.lst ((alone ys xs).map V.str))) D = some (.lst ((alone xs ys).map V.str)) := (same_upd hD2) _ _ (s4 _ _ hD3)
    have hE5 := upd_same (H := H4) (a := D2) (o := .lst ((alone ys xs).map V.str))
    change tSeq _ _ _ _ (upd H4 D2 (.lst ((alone ys xs).map V.str)))
    generalize upd H4 D2 (.lst ((alone ys xs).map V.str)) = H5 at s5 hD5 hE5 ⊢
    unfold crossL at k
    refine ⟨_, rfl, (by decide), fun e he => ⟨D, e, _, rfl, rfl, SqL.of ((same_upd he) _ _ hD5), SqL.of upd_same, _, rfl, ?_⟩⟩
    have se := same_upd (o := .lst []) he
    have s6 := s5.trans se
    have hD6 := se _ _ hD5
    have hE6 := se _ _ hE5
    generalize upd H5 e (.lst []) = H6 at s6 hD6 hE6 ⊢
    simp only [Bool.false_eq_true, if_false]
    by_cases n1 : alone xs ys = []
    · rw [n1, decide_eq_true (by rfl)]
      rw [n1, decide_eq_true rfl] at k
      exact iteT (show Q (.bl false) _ by simpa using k _ s6)
    have e1 : decide ((alone xs ys).map V.str = []) = false := decide_eq_false fun z => n1 (List.map_eq_nil_iff.mp z)
    rw [e1]
    rw [decide_eq_false n1] at k
    refine iteF ⟨_, rfl, (by decide), fun e2 he2 => ⟨D2, e2, _, rfl, rfl, SqL.of ((same_upd he2) _ _ hE6), SqL.of upd_same, _, rfl, ?_⟩⟩
    have se2 := same_upd (o := .lst []) he2
    have s7 := s6.trans se2
    have hD7 := se2 _ _ hD6
    have hE7 := se2 _ _ hE6
    generalize upd H6 e2 (.lst []) = H7 at s7 hD7 hE7 ⊢
    simp only [Bool.false_eq_true, if_false]
    by_cases n2 : alone ys xs = []
    · rw [n2, decide_eq_true (by rfl)]
      rw [n2, decide_eq_true rfl] at k
      exact iteT (show Q (.bl false) _ by simpa using k _ s7)
    have e2 : decide ((alone ys xs).map V.str = []) = false := decide_eq_false fun z => n2 (List.map_eq_nil_iff.mp z)
    rw [e2]
    rw [decide_eq_false n2] at k
    refine iteF ⟨_, rfl, D, _, rfl, .inl (SqL.of hD7), _, rfl, u, _, rfl, .inr (SqT.of (s7 _ _ hu)), rfl, _, rfl, ?_⟩
    rw [List.length_map, List.length_map]
    by_cases n3 : (alone xs ys).length = xs.length
    · rw [decide_eq_true n3] at k
      refine ite2 (fun _ => show Q (.bl false) _ by simpa using k _ s7) (fun z => absurd z (by simp [n3]))
    · rw [decide_eq_false n3] at k
      refine ite2 (fun z => absurd z (by simp; omega)) (fun _ => ?_)
      refine ⟨_, rfl, u, _, rfl, .inr (SqT.of (s7 _ _ hu)), _, rfl, D2, _, rfl, .inl (SqL.of hE7), _, _, rfl, rfl, _, rfl, a, _, rfl, .inl (SqL.of (s7 _ _ ha)), _, _, rfl, rfl, ?_⟩
      have := k _ s7
      rw [List.length_map, List.length_map, List.length_map]
      have ee : decide (((xs.length : Nat) : Int) + (alone ys xs).length < ns.length) = decide (xs.length + (alone ys xs).length < ns.length) := by
        rw [decide_eq_decide]; omega
      show Q (.bl (decide (((xs.length : Nat) : Int) + (alone ys xs).length < ns.length))) _
      rw [ee]
      simpa using this
/-! ### what both have, what one has at least -/
def spHBB (C : Addr) : Sp := fun vs H Q _ => ∃ (x u v : Addr) (ms xs ys : List Str) (ps : List (Str × Str)), vs = [.ref x, .ref u, .ref v] ∧ WebObj C H x ms ps ∧ ms.length ≤ 12 ∧ H u = some (.tup (xs.map V.str)) ∧ H v = some (.tup (ys.map V.str)) ∧
  ∀ l H', H' l = some (.tup ((both (srt ms) xs ys).map V.str)) → Same H H' → Q (.ref l) H'
def spHBO (C : Addr) : Sp := fun vs H Q _ => ∃ (x u v : Addr) (ms xs ys : List Str) (ps : List (Str × Str)), vs = [.ref x, .ref u, .ref v] ∧ WebObj C H x ms ps ∧ ms.length ≤ 12 ∧ H u = some (.tup (xs.map V.str)) ∧ H v = some (.tup (ys.map V.str)) ∧
  ∀ l H', H' l = some (.tup ((either (srt ms) xs ys).map V.str)) → Same H H' → Q (.ref l) H'
abbrev nHB : List Str := ["web", "places", "others"]
theorem scHBB : FnScope nHB nHB (defScope sHBB) := ⟨rfl, rfl, rfl, by decide +kernel, rfl, by decide +kernel, by decide +kernel⟩
theorem scHBO : FnScope nHB nHB (defScope sHBO) := ⟨rfl, rfl, rfl, by decide +kernel, rfl, by decide +kernel, by decide +kernel⟩
variable {C fP fS : Addr} {fdP fdS : FuncData}
theorem ok_hbb {f : Addr} {fd : FuncData} (F : Fun K "had_by_both" "had_by_both" sHBB f fd) (M : Mt K mg C fP fS fdP fdS) (T : Glb mg) : FnOk P w K mg base CX0 2 f fd nHB (spHBB C) := by
  have GL : FnOk P w K mg base CX0 1 fP fdP ["self"] (spPl C) := ok_places M.pF M.wc T
  refine F.ok scHBB (fun vs H Q E h => ?_) (fun cdv A outer s H vs Q E hr h => ?_)
  · obtain ⟨x, u, v, ms, xs, ys, ps, rfl, _⟩ := h
    rfl
  · obtain ⟨x, u, v, ms, xs, ys, ps, rfl, hW, lm, hu, hv, k⟩ := h
    refine ⟨_, pss_one (ps_ret (pe_callTy call_tuple_of (by rfl) T.tuple PyProof.Rows.boot_tuple (pa_cons (pe_lc ["place"] [2, 1] rfl (compSc (osc := (defScope sHBB).names) (N := nHB) rfl rfl (by decide +kernel)) (gk_name (by decide)) (pi_list (pe_meth0 (pv 0) M.wc.cl M.pM GL hr M.pB .nil pass0))
      (fun _ _ _ => pg_name (i := 0) (show (["place", "others", "places"] : List Str).Nodup by decide +kernel) rfl (Or.inl rfl))
      (fun _ _ _ => pifs_one (PW.pt (pw_and (pt_cmpR (r := rIn K false) op_in_seq (pv 0) (pv 2) rfl) (pw_and1 (pt_cmpR (r := rIn K false) op_in_seq (pv 0) (pv 1) rfl))))) (fun _ _ _ => pv 0)) pa_nil))), ?_⟩
    obtain ⟨d1, f1, q1, r1⟩ := hW.meth "places"
    refine ⟨_, rfl, x, d1, f1, rfl, q1, r1, x, ms, ps, rfl, hW, fun l hl => ⟨l, rfl, ⟨_, SqL.of upd_same⟩, ?_⟩⟩
    have sl := same_upd (o := .lst ((srt ms).map V.str)) hl
    refine flt_l (K := K) (xs := srt ms) (by rw [srt_len]; omega) upd_same (fun z => decide (z ∈ xs) && decide (z ∈ ys)) (fun z H2 R _ s2 q => ?_) (fun z H2 R q => ⟨_, rfl, q⟩) fun D H2 s2 hD => ?_
    · refine ⟨_, rfl, _, rfl, u, _, rfl, .inr (SqT.of (s2 _ _ (sl _ _ hu))), rfl, flat_strs xs, _, rfl, ?_⟩
      simp only [Bool.false_eq_true, if_false]
      rw [inV_str]
      by_cases h1 : z ∈ xs
      · rw [decide_eq_true h1] at q ⊢
        refine iteT ⟨_, rfl, _, rfl, v, _, rfl, .inr (SqT.of (s2 _ _ (sl _ _ hv))), rfl, flat_strs ys, _, rfl, ?_⟩
        simp only [Bool.false_eq_true, if_false]
        rw [inV_str]
        exact q
      · rw [decide_eq_false h1] at q ⊢
        exact iteF q
    · exact ⟨D, _, rfl, .inl ⟨SqL.of upd_same, fun l2 hl2 => k l2 _ upd_same (sl.trans (s2.trans ((same_upd hD).trans (same_upd hl2))))⟩⟩
theorem ok_hbo {f : Addr} {fd : FuncData} (F : Fun K "had_by_one" "had_by_one" sHBO f fd) (M : Mt K mg C fP fS fdP fdS) (T : Glb mg) : FnOk P w K mg base CX0 2 f fd nHB (spHBO C) := by
  have GL : FnOk P w K mg base CX0 1 fP fdP ["self"] (spPl C) := ok_places M.pF M.wc T
  refine F.ok scHBO (fun vs H Q E h => ?_) (fun cdv A outer s H vs Q E hr h => ?_)
  · obtain ⟨x, u, v, ms, xs, ys, ps, rfl, _⟩ := h
    rfl
  · obtain ⟨x, u, v, ms, xs, ys, ps, rfl, hW, lm, hu, hv, k⟩ := h
    refine ⟨_, pss_one (ps_ret (pe_callTy call_tuple_of (by rfl) T.tuple PyProof.Rows.boot_tuple (pa_cons (pe_lc ["place"] [2, 1] rfl (compSc (osc := (defScope sHBO).names) (N := nHB) rfl rfl (by decide +kernel)) (gk_name (by decide)) (pi_list (pe_meth0 (pv 0) M.wc.cl M.pM GL hr M.pB .nil pass0))
      (fun _ _ _ => pg_name (i := 0) (show (["place", "others", "places"] : List Str).Nodup by decide +kernel) rfl (Or.inl rfl))
      (fun _ _ _ => pifs_one (PW.pt (pw_or (pt_cmpR (r := rIn K false) op_in_seq (pv 0) (pv 2) rfl) (pw_or1 (pt_cmpR (r := rIn K false) op_in_seq (pv 0) (pv 1) rfl))))) (fun _ _ _ => pv 0)) pa_nil))), ?_⟩
    obtain ⟨d1, f1, q1, r1⟩ := hW.meth "places"
    refine ⟨_, rfl, x, d1, f1, rfl, q1, r1, x, ms, ps, rfl, hW, fun l hl => ⟨l, rfl, ⟨_, SqL.of upd_same⟩, ?_⟩⟩
    have sl := same_upd (o := .lst ((srt ms).map V.str)) hl
    refine flt_l (K := K) (xs := srt ms) (by rw [srt_len]; omega) upd_same (fun z => decide (z ∈ xs) || decide (z ∈ ys)) (fun z H2 R _ s2 q => ?_) (fun z H2 R q => ⟨_, rfl, q⟩) fun D H2 s2 hD => ?_
    · refine ⟨_, rfl, _, rfl, u, _, rfl, .inr (SqT.of (s2 _ _ (sl _ _ hu))), rfl, flat_strs xs, _, rfl, ?_⟩
      simp only [Bool.false_eq_true, if_false]
      rw [inV_str]
      by_cases h1 : z ∈ xs
      · rw [decide_eq_true h1] at q ⊢
        exact iteT q
      · rw [decide_eq_false h1] at q ⊢
        refine iteF ⟨_, rfl, _, rfl, v, _, rfl, .inr (SqT.of (s2 _ _ (sl _ _ hv))), rfl, flat_strs ys, _, rfl, ?_⟩
        simp only [Bool.false_eq_true, if_false]
        rw [inV_str]
        exact q
    · exact ⟨D, _, rfl, .inl ⟨SqL.of upd_same, fun l2 hl2 => k l2 _ upd_same (sl.trans (s2.trans ((same_upd hD).trans (same_upd hl2))))⟩⟩
end
end K34

set_option Elab.async false
set_option linter.all false
set_option maxRecDepth 100000
set_option maxHeartbeats 4000000
namespace K34
open PySem PySem.Spec PyProof.Rows L2
theorem thing_of {K : PySem.W.Frag} {H : Hp} {ns ms zs : List Str} {ps : List (Str × Str)} {u : Addr} (h : IsC ns ps zs) (m : ms.Perm ns) (hu : H u = some (.tup (zs.map V.str))) : Thing K H ms (.ref u) (some zs) := by
  refine .inr ⟨u, _, rfl, hu, fun x hx => ?_, ?_⟩
  · obtain ⟨z, _, rfl⟩ := List.mem_map.mp hx
    exact .inl ⟨z, rfl⟩
  · unfold partC
    have e : zs = srt (dist zs) := by
      rw [srt_same (dist_nodup zs) h.shut.nd fun x => mem_dist, h.shut.rise]
    have c1 : 1 ≤ (zs.map V.str).length := by rw [List.length_map]; exact List.length_pos_iff.mpr h.shut.some
    have c2 : (zs.map V.str).length < ms.length := by rw [List.length_map, m.length_eq]; exact h.less
    have c3 : (zs.map V.str).all (okI ms) = true := List.all_eq_true.mpr fun x hx => by
      obtain ⟨z, hz, rfl⟩ := List.mem_map.mp hx
      show decide (z ∈ ms) = true
      exact decide_eq_true (m.mem_iff.mpr (h.shut.ins z hz))
    rw [if_pos ⟨c1, c2, c3, by rw [txs_map]; exact e⟩, txs_map]
section
variable {P : Program} {w : World} {K : PySem.W.Frag} {mg : Str → Option Value} {base : Heap}
variable {C fP fS fA fPt fCu : Addr} {fdP fdS fdA fdPt fdCu : FuncData}
/-! ### the looks at cuts that are such -/
def spChk0 (C : Addr) : Sp := fun vs H Q _ => ∃ (x : Addr) (ns : List Str) (ps : List (Str × Str)) (y : V) (zs : List Str), vs = [.ref x, y] ∧ WebObj C H x ns ps ∧ GoodW ns ps ∧ Thing K H ns y (some zs) ∧ closed ps zs = true ∧ ∀ H', Same H H' → Q .non H'
theorem ok_chk0 {f : Addr} {fd : FuncData} (F : Fun K "check_cut" "check_cut" sChkC f fd) (D : Cd K mg C fP fS fA fPt fCu fdP fdS fdA fdPt fdCu) (T : Glb mg) : FnOk P w K mg base CX0 4 f fd ["web", "cut"] (spChk0 (K := K) C) := by
  have GC : FnOk P w K mg base CX0 3 fCu fdCu ["web", "thing"] (spIsCut (K := K) C) := ok_isCut D.c.fn D T
  refine F.ok scCc (fun vs H Q E h => ?_) (fun cdv A outer s H vs Q E hr h => ?_)
  · obtain ⟨x, ns, ps, y, zs, rfl, _⟩ := h
    rfl
  · obtain ⟨x, ns, ps, y, zs, rfl, hW, g, th, cl, k⟩ := h
    refine ⟨_, pss_one (ps_if (pt_not (pt_val (pe_call GC hr rfl D.c.mgf D.c.fn.kp D.c.b .nil pass0 (pa_cons (pv 0) (pa_cons (pv 1) pa_nil))) (fun _ => rfl))) (pss_one ps_never) pss_nil), ?_⟩
    refine ⟨_, rfl, _, rfl, x, ns, ps, y, _, rfl, hW, g, th, fun H1 s1 => ⟨_, rfl, ?_⟩⟩
    rw [show cutC ps (some zs) = true from cl]
    exact iteF (k _ s1)
end
end K34

set_option Elab.async false
set_option linter.all false
set_option maxRecDepth 100000
set_option maxHeartbeats 4000000
namespace K34
open PySem PySem.Spec PyProof.Rows L2
section
variable {P : Program} {w : World} {K : PySem.W.Frag} {mg : Str → Option Value} {base : Heap}
variable {C fP fS fA fPt fCu fB fO fR fCc fF : Addr} {fdP fdS fdA fdPt fdCu fdB fdO fdR fdCc fdF : FuncData}
/-! ### whether two cross -/
def spAre (C : Addr) : Sp := fun vs H Q _ => ∃ (x u v : Addr) (ms xs ys : List Str) (ps : List (Str × Str)), vs = [.ref x, .ref u, .ref v] ∧ WebObj C H x ms ps ∧ ms.length ≤ 12 ∧ H u = some (.tup (xs.map V.str)) ∧ H v = some (.tup (ys.map V.str)) ∧
  ∀ H', Same H H' → Q (.bl (crossP (srt ms) xs ys)) H'
abbrev nAr : List Str := ["web", "cut", "other", "inner", "outer"]
theorem scAr : FnScope nAr ["web", "cut", "other"] (defScope sAre) := ⟨rfl, rfl, rfl, by decide +kernel, rfl, by decide +kernel, by decide +kernel⟩
theorem ok_are {f : Addr} {fd : FuncData} (F : Fun K "are_crossing" "are_crossing" sAre f fd) (M : Mt K mg C fP fS fdP fdS) (DB : Df K mg "had_by_both" sHBB nHB fB fdB) (DO : Df K mg "had_by_one" sHBO nHB fO fdO) (T : Glb mg) : FnOk P w K mg base CX0 3 f fd ["web", "cut", "other"] (spAre C) := by
  have GL : FnOk P w K mg base CX0 1 fP fdP ["self"] (spPl C) := ok_places M.pF M.wc T
  have GB : FnOk P w K mg base CX0 2 fB fdB nHB (spHBB C) := ok_hbb DB.fn M T
  have GO : FnOk P w K mg base CX0 2 fO fdO nHB (spHBO C) := ok_hbo DO.fn M T
  refine F.ok scAr (fun vs H Q E h => ?_) (fun cdv A outer s H vs Q E hr h => ?_)
  · obtain ⟨x, u, v, ms, xs, ys, ps, rfl, _⟩ := h
    rfl
  · obtain ⟨x, u, v, ms, xs, ys, ps, rfl, hW, lm, hu, hv, k⟩ := h
    have h1 := hr.mono (j := 1) (by decide)
    refine ⟨_, pss_cons (ps_set (i := 3) scAr.nd rfl (Or.inl rfl) (pe_callB call_len_seq (by rfl) T.len PySem.boot_len (pa_cons (pe_call GB hr rfl DB.mgf DB.fn.kp DB.b .nil pass0 (pa_cons (pv 0) (pa_cons (pv 1) (pa_cons (pv 2) pa_nil)))) pa_nil)))
      (pss_cons (ps_set (i := 4) scAr.nd rfl (Or.inl rfl) (pe_callB call_len_seq (by rfl) T.len PySem.boot_len (pa_cons (pe_call GO hr rfl DO.mgf DO.fn.kp DO.b .nil pass0 (pa_cons (pv 0) (pa_cons (pv 1) (pa_cons (pv 2) pa_nil)))) pa_nil)))
      (pss_one (ps_ret (pe_and (pe_chain op_le op_lt pe_int (pv 3) (pe_callB (call_min2 rfl) (by rfl) T.min PyProof.Rows.boot_min (pa_cons (pe_callB call_len_seq (by rfl) T.len PySem.boot_len (pa_cons (pv 1) pa_nil)) (pa_cons (pe_callB call_len_seq (by rfl) T.len PySem.boot_len (pa_cons (pv 2) pa_nil)) pa_nil))))
        (pe_one (pe_cmpR op_lt (pv 4) (pe_callB call_len_seq (by rfl) T.len PySem.boot_len (pa_cons (pe_meth0 (pv 0) M.wc.cl M.pM GL h1 M.pB .nil pass0) pa_nil)) (nomark _))))))), ?_⟩
    refine ⟨_, rfl, _, rfl, _, rfl, x, u, v, ms, xs, ys, ps, rfl, hW, lm, hu, hv, fun l1 H1 hl1 s1 => ⟨l1, _, rfl, .inr (SqT.of hl1), ?_⟩⟩
    refine ⟨_, rfl, _, rfl, _, rfl, x, u, v, ms, xs, ys, ps, rfl, hW.same s1, lm, s1 _ _ hu, s1 _ _ hv, fun l2 H2 hl2 s2 => ⟨l2, _, rfl, .inr (SqT.of hl2), ?_⟩⟩
    have s02 := s1.trans s2
    rw [List.length_map, List.length_map]
    refine ⟨_, rfl, _, _, rfl, rfl, _, rfl, ?_⟩
    unfold crossP at k
    refine ite2 (fun h1 => ?_) (fun h1 => ?_)
    · have e1 : 1 ≤ (both (srt ms) xs ys).length := by have := of_decide_eq_true h1; omega
      refine ⟨_, rfl, u, _, rfl, .inr (SqT.of (s02 _ _ hu)), _, rfl, v, _, rfl, .inr (SqT.of (s02 _ _ hv)), _, _, rfl, _, _, rfl, rfl, _, rfl, ?_⟩
      rw [List.length_map, List.length_map]
      have e2 : decide (((both (srt ms) xs ys).length : Int) < if ((ys.length : Nat) : Int) < (xs.length : Nat) then ((ys.length : Nat) : Int) else (xs.length : Nat)) = decide ((both (srt ms) xs ys).length < min xs.length ys.length) := by
        rw [decide_eq_decide]; split <;> omega
      rw [e2]
      rw [decide_eq_true e1] at k
      by_cases e3 : (both (srt ms) xs ys).length < min xs.length ys.length
      · rw [decide_eq_true e3] at k ⊢
        have W2 := hW.same s02
        obtain ⟨d1, f1, q1, r1⟩ := W2.meth "places"
        refine iteT ⟨_, rfl, _, rfl, x, d1, f1, rfl, q1, r1, x, ms, ps, rfl, W2, fun l hl => ⟨l, _, rfl, .inl (SqL.of upd_same), _, _, rfl, rfl, ?_⟩⟩
        rw [List.length_map]
        have e4 : decide (((either (srt ms) xs ys).length : Int) < ((srt ms).length : Nat)) = decide ((either (srt ms) xs ys).length < (srt ms).length) := by rw [decide_eq_decide]; omega
        show Q (.bl (decide (((either (srt ms) xs ys).length : Int) < ((srt ms).length : Nat)))) _
        rw [e4]
        simpa using k _ (s02.trans (same_upd hl))
      · rw [decide_eq_false e3] at k ⊢
        exact iteF (show Q (.bl false) _ by simpa using k _ s02)
    · have e1 : ¬ 1 ≤ (both (srt ms) xs ys).length := fun z => h1 (decide_eq_true (by omega))
      rw [decide_eq_false e1] at k
      exact ⟨_, rfl, iteF (by simpa using k _ s02)⟩
/-! ### a family that is one -/
def spChkF (C : Addr) : Sp := fun vs H Q _ => ∃ (x l : Addr) (ns ms : List Str) (ps : List (Str × Str)) (us : List Addr) (zss : List (List Str)), vs = [.ref x, .ref l] ∧ WebObj C H x ms ps ∧ ms.Perm ns ∧ GoodW ms ps ∧ H l = some (.lst (us.map V.ref)) ∧ CutsAt H us zss ∧ (∀ zs ∈ zss, IsC ns ps zs) ∧ ∀ H', Same H H' → Q .non H'
abbrev nCf : List Str := ["web", "family", "cut"]
theorem scCf : FnScope nCf ["web", "family"] (defScope sChkF) := ⟨rfl, rfl, rfl, by decide +kernel, rfl, by decide +kernel, by decide +kernel⟩
theorem ok_chkF {f : Addr} {fd : FuncData} (F : Fun K "check_family" "check_family" sChkF f fd) (D : Cd K mg C fP fS fA fPt fCu fdP fdS fdA fdPt fdCu) (DC : Df K mg "check_cut" sChkC ["web", "cut"] fCc fdCc) (T : Glb mg) : FnOk P w K mg base CX0 5 f fd ["web", "family"] (spChkF C) := by
  have GC : FnOk P w K mg base CX0 4 fCc fdCc ["web", "cut"] (spChk0 (K := K) C) := ok_chk0 DC.fn D T
  refine F.ok scCf (fun vs H Q E h => ?_) (fun cdv A outer s H vs Q E hr h => ?_)
  · obtain ⟨x, l, ns, ms, ps, us, zss, rfl, _⟩ := h
    rfl
  · obtain ⟨x, l, ns, ms, ps, us, zss, rfl, hW, pm, g, hl, hC, all, k⟩ := h
    refine ⟨_, pss_cons (ps_if (pt_not (pt_val (pe_callB (call_isinst (T := "list")) (by rfl) T.isinst PyProof.Rows.boot_isinstance (pa_cons (pv 1) (pa_cons (pe_bltn (v := .ty "list") rfl T.list PyProof.Rows.boot_list rfl) pa_nil))) (fun _ => rfl))) (pss_one ps_never) pss_nil)
      (pss_one (ps_for PassesOwn.never rfl (pi_list (pv 1)) (pg_name (i := 2) scCf.nd rfl (Or.inl rfl)) (pss_one (ps_expr (pe_call GC hr rfl DC.mgf DC.fn.kp DC.b .nil pass0 (pa_cons (pv 0) (pa_cons (pv 2) pa_nil))))))), ?_⟩
    refine ⟨_, rfl, _, _, true, rfl, .lst hl, rfl, _, rfl, ?_⟩
    refine iteF ⟨_, rfl, l, rfl, ⟨_, SqL.of hl⟩, for_list (K := K) (xs := us.map V.ref) (fun _ σ H3 => (∃ v2, σ = [some (.ref x), some (.ref l), v2]) ∧ Same H H3) ⟨⟨_, rfl⟩, Same.refl _⟩ ?_ ?_ ?_⟩
    · rintro j σ H3 _ ⟨_, s3⟩
      exact SqL.of (s3 _ _ hl)
    · rintro j y σ H3 hy ⟨⟨v2, rfl⟩, s3⟩
      rw [List.getElem?_map] at hy
      obtain ⟨u, eu, rfl⟩ := Option.map_eq_some_iff.mp hy
      obtain ⟨zs, ez, hu⟩ := (hC.same s3).get eu
      have ic := all zs (List.mem_of_getElem? ez)
      exact ⟨_, rfl, _, rfl, x, ms, ps, _, zs, rfl, hW.same s3, g, thing_of ic pm hu, ic.shut.shut, fun H4 s4 => ⟨⟨_, rfl⟩, s3.trans s4⟩⟩
    · rintro σ H3 ⟨_, s3⟩
      exact k _ s3
/-- the defs of crossing -/
structure Xd (K : PySem.W.Frag) (mg : Str → Option Value) (C fP fS fA fPt fCu fB fO fR fCc fF : Addr) (fdP fdS fdA fdPt fdCu fdB fdO fdR fdCc fdF : FuncData) : Prop where
  cd : Cd K mg C fP fS fA fPt fCu fdP fdS fdA fdPt fdCu
  b : Df K mg "had_by_both" sHBB nHB fB fdB
  o : Df K mg "had_by_one" sHBO nHB fO fdO
  r : Df K mg "are_crossing" sAre ["web", "cut", "other"] fR fdR
  cc : Df K mg "check_cut" sChkC ["web", "cut"] fCc fdCc
  f : Df K mg "check_family" sChkF ["web", "family"] fF fdF
end
end K34

set_option Elab.async false
set_option linter.all false
set_option maxRecDepth 100000
set_option maxHeartbeats 4000000
namespace K34
open PySem PySem.Spec PyProof.Rows L2
/-! ### counting -/
end K34
namespace L2
open PySem PySem.Spec PyProof.Rows
end L2
namespace K34
open PySem PySem.Spec PyProof.Rows L2
section
variable {P : Program} {w : World} {K : PySem.W.Frag} {mg : Str → Option Value} {base : Heap}
variable {C fP fS fA fPt fCu fB fO fR fCc fF fM fT : Addr} {fdP fdS fdA fdPt fdCu fdB fdO fdR fdCc fdF fdM fdT : FuncData}
end
end K34

set_option Elab.async false
set_option linter.all false
set_option maxRecDepth 100000
set_option maxHeartbeats 4000000
namespace L2
open PySem PySem.Spec PyProof.Rows
/-! ### a list comprehension of two clauses -/
section
variable {prog : Program} {w : World} {A : Around} {R : Result → Shared → Prop} {s : Shared} {E : Value → Shared → Prop}
theorem start_1 {elt : Expr} {c1 : Comprehension} {tg iter : Expr} {ifs : List Expr} {sc : Scope} {pos : Pos} {it acc : Value} {env : Env}
    (h0 : codeAny (model prog w) A (.compLoop (.ListComp elt [c1, ⟨tg, iter, ifs, 0⟩] sc pos) 1 it acc env) R s)
    (h : wpAny (model prog w) A (pyIter it) (fun it' s' => codeAny (model prog w) A (.compLoop (.ListComp elt [c1, ⟨tg, iter, ifs, 0⟩] sc pos) 1 it' acc env) R s')
      (notedBy (model prog w) A env fun x s' => R (.error x) s') s) :
    codeAny (model prog w) A (.compStart (.ListComp elt [c1, ⟨tg, iter, ifs, 0⟩] sc pos) 1 it acc env) R s := by
  refine codeAny_of_tree ?_
  show wpAny _ _ ((compStart (.ListComp elt [c1, ⟨tg, iter, ifs, 0⟩] sc pos) 1 it acc env).onRaise (fun x => do noteFrame x env; standAt theWindowsPlace)) _ _ s
  refine wpAny_notedAt ?_
  unfold compStart
  show wpAny _ _ (ask >>= _) _ _ s
  refine wpAny_bind (wpAny_askSetting (wpAny_ite ?_))
  split
  · first
      | exact wpAny_bind (wpAny_pure (wpAny_pure (And.intro rfl h0)))
      | exact wpAny_pure (And.intro rfl h0)
  · first
      | exact wpAny_bind (wpAny_rule (wpAny_bind (wpAny_standAt (wpAny_bind (wpAny_mono h (fun it' s' h' => wpAny_pure (And.intro rfl h')) fun _ _ x => x)))))
      | (refine wpAny_bind (wpAny_rule ?_); show wpAny _ _ (standAt iter.pos >>= _) _ _ s; exact wpAny_bind (wpAny_standAt (wpAny_bind (wpAny_mono h (fun it' s' h' => wpAny_pure (And.intro rfl h')) fun _ _ x => x))))
theorem turn_1 (elt : Expr) (c1 : Comprehension) (tg iter : Expr) (ifs : List Expr) (sc : Scope) (pos : Pos) (it acc : Value) (env : Env) :
    compTurn (.ListComp elt [c1, ⟨tg, iter, ifs, 0⟩] sc pos) 1 it acc env = (do
      standAt iter.pos
      match ← pyNext it with
      | none => pure (.done .next)
      | some v =>
        letOwnedTupleGo tg it v
        assign tg env v
        let mut ok := true
        for c in ifs do
          if ok then ok ← isTrue c env (eval c env)
        if ok then
          (do let _ ← call (.builtin "list.append") [acc, ← eval elt env])
        again (.compLoop (.ListComp elt [c1, ⟨tg, iter, ifs, 0⟩] sc pos) 1 it acc env)) := by rfl
theorem turn_0 (elt tg iter tg2 iter2 : Expr) (ifs2 : List Expr) (sc : Scope) (pos : Pos) (it acc : Value) (env : Env) :
    compTurn (.ListComp elt [⟨tg, iter, [], 0⟩, ⟨tg2, iter2, ifs2, 0⟩] sc pos) 0 it acc env = (do
      standAt iter.pos
      match ← pyNext it with
      | none => pure (.done .next)
      | some v =>
        letOwnedTupleGo tg it v
        assign tg env v
        let x ← eval iter2 env
        standAt iter2.pos
        let x ← foldedSetIterable iter2 env x
        let it2 ← holding [x] (pyIter x)
        let _ ← runOwn (.compStart (.ListComp elt [⟨tg, iter, [], 0⟩, ⟨tg2, iter2, ifs2, 0⟩] sc pos) 1 it2 acc env) env
        again (.compLoop (.ListComp elt [⟨tg, iter, [], 0⟩, ⟨tg2, iter2, ifs2, 0⟩] sc pos) 0 it acc env)) := by rfl
/-- the inner clause's loop -/
theorem loops_1 {elt : Expr} {c1 : Comprehension} {tg iter : Expr} {ifs : List Expr} {sc : Scope} {pos : Pos} {env : Env} {it acc : Value} (G : Nat → Shared → Prop)
    (turn : ∀ k t, G k t → Blk.Tame prog w A (pyNext it) (Blk.Next ⟨elt, tg, iter, ifs, sc, pos⟩ prog w A env it acc (R (.ok .next)) fun u => ∃ j, j < k ∧ G j u) t)
    {k : Nat} {t : Shared} (g : G k t) : codeAny (model prog w) A (.compLoop (.ListComp elt [c1, ⟨tg, iter, ifs, 0⟩] sc pos) 1 it acc env) R t := by
  have one : ∀ k t, G k t → Blk.Tame prog w A (compTurn (.ListComp elt [c1, ⟨tg, iter, ifs, 0⟩] sc pos) 1 it acc env) (fun x t' => match x with | .done r => R (.ok r) t' | .again c => c = .compLoop (.ListComp elt [c1, ⟨tg, iter, ifs, 0⟩] sc pos) 1 it acc env ∧ ∃ j, j < k ∧ G j t') t := by
    intro k t g
    rw [turn_1]
    apply wpAny_bind; apply wpAny_standAt; apply wpAny_bind
    refine thn (turn k t g) fun x t1 h1 => ?_
    match x, h1 with
    | none, h1 => exact wpAny_pure h1
    | some v, h1 =>
      apply wpAny_bind; refine thn h1 fun _ t2 h2 => ?_
      apply wpAny_bind; refine thn h2 fun _ t3 h3 => ?_
      apply wpAny_bind; refine thn h3 fun b t4 h4 => ?_
      match b, h4 with
      | false, h4 => exact wpAny_pure ⟨rfl, h4⟩
      | true, h4 =>
        apply wpAny_bind; apply wpAny_bind
        refine thn h4 fun y t5 h5 => ?_
        apply wpAny_bind
        refine thn h5 fun _ t6 h6 => ?_
        exact wpAny_pure (wpAny_pure ⟨rfl, h6⟩)
  exact codeAny_loop rfl G (fun k t g => wpAny_noted (wpAny_mono (one k t g) (fun _ _ q => q) fun _ _ f => f.elim)) k g
/-- the outer clause's loop -/
theorem loops_0 {elt tg iter tg2 iter2 : Expr} {ifs2 : List Expr} {sc : Scope} {pos : Pos} {env : Env} {it acc : Value} (G : Nat → Shared → Prop) (hf : ∀ x, foldedSetIterable iter2 env x = pure x)
    (turn : ∀ k t, G k t → Blk.Tame prog w A (pyNext it) (fun r t1 => match r with
      | none => R (.ok .next) t1
      | some v => Blk.Tame prog w A (letOwnedTupleGo tg it v) (fun _ => Blk.Tame prog w A (assign tg env v) fun _ => Blk.Tame prog w A (eval iter2 env) fun x => Blk.Tame prog w A (pyIter x) fun it2 =>
          codeAny (model prog w) A (.compStart (.ListComp elt [⟨tg, iter, [], 0⟩, ⟨tg2, iter2, ifs2, 0⟩] sc pos) 1 it2 acc env) fun r u => r = .ok .next ∧ ∃ j, j < k ∧ G j u) t1) t)
    {k : Nat} {t : Shared} (g : G k t) : codeAny (model prog w) A (.compLoop (.ListComp elt [⟨tg, iter, [], 0⟩, ⟨tg2, iter2, ifs2, 0⟩] sc pos) 0 it acc env) R t := by
  have one : ∀ k t, G k t → Blk.Tame prog w A (compTurn (.ListComp elt [⟨tg, iter, [], 0⟩, ⟨tg2, iter2, ifs2, 0⟩] sc pos) 0 it acc env) (fun x t' => match x with | .done r => R (.ok r) t' | .again c => c = .compLoop (.ListComp elt [⟨tg, iter, [], 0⟩, ⟨tg2, iter2, ifs2, 0⟩] sc pos) 0 it acc env ∧ ∃ j, j < k ∧ G j t') t := by
    intro k t g
    rw [turn_0]
    apply wpAny_bind; apply wpAny_standAt; apply wpAny_bind
    refine thn (turn k t g) fun x t1 h1 => ?_
    match x, h1 with
    | none, h1 => exact wpAny_pure h1
    | some v, h1 =>
      apply wpAny_bind; refine thn h1 fun _ t2 h2 => ?_
      apply wpAny_bind; refine thn h2 fun _ t3 h3 => ?_
      apply wpAny_bind; refine thn h3 fun x2 t4 h4 => ?_
      apply wpAny_bind; apply wpAny_standAt
      apply wpAny_bind; refine wpAny_of_eq (hf x2) ?_
      apply wpAny_bind; refine wpAny_holding (thn h4 fun it2 t5 h5 => ?_)
      apply wpAny_bind; refine wpAny_runOwn (codeAny_mono h5 fun r t6 h6 => ?_)
      obtain ⟨rfl, h6⟩ := h6
      exact wpAny_pure ⟨rfl, h6⟩
  exact codeAny_loop rfl G (fun k t g => wpAny_noted (wpAny_mono (one k t g) (fun _ _ q => q) fun _ _ f => f.elim)) k g
end
/-- what is wanted of the inner clause's loop: W by the turn, a measure, the items so far, the heap -/
def lcIn (i2 : Nat) (tt : TT) (te : TE) (σ : St) (ys0 : List V) (Rr : List V → Hp → Prop) (J : It) (H1 : Hp) : Prop :=
  ∃ W : Nat → Nat → List V → Hp → Prop, (∃ m, W 0 m ys0 H1) ∧ ∀ i m ys H2, W i m ys H2 → ys.length ≤ sizeLine ∧
    ((J.stop i H2 ∧ Rr ys H2) ∨
     (J.go i H2 ∧ ∀ x H3, J.yld i H2 x H3 → tt (σ.set i2 (some x)) H3 fun b H5 => if b = true then te (σ.set i2 (some x)) H5 fun y H6 => ∃ m', m' < m ∧ W (i + 1) m' (ys ++ [y]) H6 else ∃ m', m' < m ∧ W (i + 1) m' ys H5))
def lcLoop2 (own : List Str) (fr : List Nat) (g : TG) (i2 : Nat) (wi2 : TI) (tt : TT) (te : TE) (σ : St) (Q : VK) (J : It) (H1 : Hp) : Prop :=
  ∃ W : Nat → Nat → List V → Hp → Prop, (∃ m, W 0 m [] H1) ∧ ∀ i m ys H2, W i m ys H2 → ys.length ≤ sizeLine ∧
    ((J.stop i H2 ∧ ∀ D, H2 D = none → Q (.ref D) (upd H2 D (.lst ys))) ∨
     (J.go i H2 ∧ ∀ x H3, J.yld i H2 x H3 → g x (cSt own fr σ) H3 fun σ4 H4 => σ4[i2]? = some none ∧ wi2 σ4 H4 (lcIn i2 tt te σ4 ys fun ys' H6 => ∃ m', m' < m ∧ W (i + 1) m' ys' H6)))
def tLC2 (own : List Str) (fr : List Nat) (wi : TI) (g : TG) (i2 : Nat) (wi2 : TI) (tt : TT) (te : TE) : TE := fun σ H Q => wi σ H (lcLoop2 own fr g i2 wi2 tt te σ Q)
section
variable {Y : Cx} {elt tg2 iter2 : Expr} {c1 : Comprehension} {ifs2 : List Expr} {sc : Scope} {pos : Pos} {tt : TT} {te : TE} {i2 : Nat}
theorem inner_core {pins : List (Addr × Obj)} {σ4 : St} {H5 : Hp} {s5 : Shared} {D it2 : Addr} {fp2 : List Addr} {tn2 : Nat → Heap → Prop} {J2 : It} {ys0 : List V} {us0 : List Value} {k0 : Nat} {Rr : List V → Hp → Prop} {R : Result → Shared → Prop}
    (hc : Y.calm = true) (eX : Y.xe = Nev) (hg : PG Y tg2 (gName i2)) (ht : PIfs Y ifs2 tt) (he : PE Y elt te) (hi2 : σ4[i2]? = some none)
    (I5 : Inv Y pins σ4 H5 s5) (T : Turn Y.prog Y.w Y.K tg2 J2 fp2 it2 tn2) (st5 : tn2 0 s5.heap) (f2 : ∀ b ∈ fp2, FpOk Y pins H5 b) (fD : FpOk Y pins H5 D) (dfp : D ∉ fp2)
    (hDo : s5.heap.get? D = some { cls := .type "list", data := .seq (List.toArray us0) k0 }) (rv : Vals ys0 us0) (L : lcIn i2 tt te σ4 ys0 Rr J2 H5)
    (hR : ∀ ys us k H' s', Rr ys H' → Inv Y pins σ4 H' s' → H' D = none → s'.heap.get? D = some { cls := .type "list", data := .seq (List.toArray us) k } → Vals ys us → R (.ok .next) s') :
    codeAny (model Y.prog Y.w) Y.A (.compLoop (.ListComp elt [c1, ⟨tg2, iter2, ifs2, 0⟩] sc pos) 1 (.ref it2) (.ref D) Y.env) R s5 := by
  obtain ⟨W, ⟨m0, w0⟩, turn⟩ := L
  obtain ⟨fD0, fD1, fD2, fD3, fD4, fD5⟩ := fD
  have pinD : ∀ {H' : Hp} {s' : Shared} {ob : Obj}, Inv Y pins σ4 H' s' → H' D = none → s'.heap.get? D = some ob → (∀ v, ob.data ≠ .cell v) → Inv Y (pins ++ [(D, ob)]) σ4 H' s' := fun {H' s' ob} J0 hn e d =>
    J0.pins_of fun p hp => by
      rcases List.mem_append.mp hp with q | q
      · exact J0.pin p (List.mem_append_right _ q)
      · have : p = (D, ob) := by simpa using q
        subst this
        exact ⟨e, hn, fD1, fD2, d⟩
  have fpY : ∀ {H' : Hp} {ob : Obj}, (∀ b ∈ fp2, H' b = none) → ∀ b ∈ fp2, FpOk Y (pins ++ [(D, ob)]) H' b := fun {H' ob} hn b hb => by
    obtain ⟨_, a1, a2, a3, a4, a5⟩ := f2 b hb
    refine ⟨hn b hb, a1, a2, a3, a4, fun p hp => ?_⟩
    rcases List.mem_append.mp hp with q | q
    · exact a5 p (List.mem_append_left _ q)
    · rcases List.mem_append.mp q with q | q
      · exact a5 p (List.mem_append_right _ q)
      · have : p = (D, ob) := by simpa using q
        subst this
        exact fun z => dfp (by have z' : D = b := z; rw [z']; exact hb)
  refine loops_1 (fun n s' => ∃ i ys us k H', W i n ys H' ∧ Inv Y pins σ4 H' s' ∧ tn2 i s'.heap ∧ (∀ b ∈ fp2, H' b = none) ∧ H' D = none ∧ s'.heap.get? D = some { cls := .type "list", data := .seq (List.toArray us) k } ∧ Vals ys us) ?_ (k := m0)
    ⟨0, ys0, us0, k0, H5, w0, I5, st5, fun b hb => (f2 b hb).1, fD0, hDo, rv⟩
  rintro n s' ⟨i, ys, us, k, H', w', J0, st', fr', hDn, hDo, rv⟩
  obtain ⟨hyl, cases'⟩ := turn i n ys H' w'
  have J1 := pinD J0 hDn hDo (fun v z => nomatch z)
  rcases cases' with ⟨stop, fin⟩ | ⟨go, step⟩
  · have d0 := T.done Y rfl rfl rfl hc i _ s' _ H' Nev J1 (fpY fr') st' stop
    refine wpAny_mono d0 (fun r s4 ⟨hr, J4⟩ => ?_) fun _ _ z => z
    subst hr
    have pD := (J4.pin (D, _) (List.mem_append_right _ (List.mem_append_right _ List.mem_cons_self))).1
    exact hR ys us k H' s4 fin (J4.pins_of fun p hp => J4.pin p (List.mem_append_right _ (List.mem_append_left _ hp))) hDn pD rv
  · have d0 := T.item Y rfl rfl rfl hc i _ s' _ H' Nev J1 (fpY fr') st' go
    refine wpAny_mono d0 (fun r s4 ⟨u, hr, h4⟩ => ?_) fun _ _ z => z
    subst hr
    refine wpAny_mono h4 (fun _ s5 ⟨x, H5, J5, r5, y5, st5, fr5⟩ => ?_) fun _ _ z => z
    have J5' := J5.pinned (fpY fr5) (T.obj _ _ st5)
    have s1 := hg _ s5 _ H5 x u _ J5' r5 (show gName i2 x σ4 H5 _ from ⟨rfl, step x H5 y5⟩ : gName i2 x σ4 H5 fun σ' H' => σ' = σ4.set i2 (some x) ∧ tt σ' H' fun b H5 => if b = true then te σ' H5 fun y H6 => ∃ m', m' < n ∧ W (i + 1) m' (ys ++ [y]) H6 else ∃ m', m' < n ∧ W (i + 1) m' ys H5)
    rw [eX] at s1
    refine wpAny_mono s1 (fun _ s6 ⟨σ6, H6, J6, e6, q6⟩ => ?_) fun _ _ z => z
    subst e6
    have s2' := ht _ s6 _ H6 _ J6 q6
    rw [eX] at s2'
    refine wpAny_mono s2' (fun ok s7 ⟨H7, J7, q7⟩ => ?_) fun _ _ z => z
    have low : ∀ {H8 : Hp} {s8 : Shared}, Inv Y (pins ++ [(D, ({ cls := .type "list", data := .seq (List.toArray us) k } : Obj))] ++ pinsAt fp2 s5.heap) (σ4.set i2 (some x)) H8 s8 →
        Inv Y (pins ++ pinsAt fp2 s5.heap) σ4 H8 s8 ∧ H8 D = none ∧ s8.heap.get? D = some { cls := .type "list", data := .seq (List.toArray us) k } ∧ (∀ b ∈ fp2, H8 b = none) ∧ tn2 (i + 1) s8.heap := fun {H8 s8} J8 => by
      have p8 := J8.pin (D, _) (List.mem_append_right _ (List.mem_append_left _ (List.mem_append_right _ List.mem_cons_self)))
      have Jw : Inv Y (pins ++ [(D, ({ cls := .type "list", data := .seq (List.toArray us) k } : Obj))] ++ pinsAt fp2 s5.heap) σ4 H8 s8 := J8.weak (by simp) fun j v e => by
        by_cases hj : j = i2
        · subst hj; rw [hi2] at e; cases e
        · rw [List.getElem?_set_ne (Ne.symm hj)]; exact e
      refine ⟨Jw.pins_of fun p hp => J8.pin p (List.mem_append_right _ ?_), p8.2.1, p8.1, fun b hb => ?_, T.keep _ _ _ st5 fun b hb o e => (J8.pin (b, o) (List.mem_append_right _ (List.mem_append_right _ (mem_pinsAt hb e)))).1⟩
      · rcases List.mem_append.mp hp with q | q
        · exact List.mem_append_left _ (List.mem_append_left _ q)
        · exact List.mem_append_right _ q
      · obtain ⟨o, e, d⟩ := T.obj _ _ st5 b hb
        exact (J8.pin (b, o) (List.mem_append_right _ (List.mem_append_right _ (mem_pinsAt hb e)))).2.1
    cases ok with
    | false =>
      obtain ⟨m', hm, w7⟩ := (show ∃ m', m' < n ∧ W (i + 1) m' ys H7 by simpa using q7)
      obtain ⟨Jw, l1, l2, l3, l4⟩ := low J7
      exact ⟨m', hm, i + 1, ys, us, k, H7, w7, Jw.pins_of fun p hp => Jw.pin p (List.mem_append_right _ (List.mem_append_left _ hp)), l4, l3, l1, l2, rv⟩
    | true =>
      have q7' : te (σ4.set i2 (some x)) H7 fun y H6 => ∃ m', m' < n ∧ W (i + 1) m' (ys ++ [y]) H6 := by simpa using q7
      have s3 := he _ s7 _ H7 _ J7 q7'
      rw [eX] at s3
      show wpAny _ _ _ _ _ _
      refine wpAny_mono s3 (fun xv s8 ⟨y, H8, J8, r8, m', hm, w8⟩ => ?_) fun _ _ z => z
      obtain ⟨Jw, l1, l2, l3, l4⟩ := low J8
      refine append_at (hsz := by rw [List.size_toArray, ← rv.length]; exact hyl) l2 fun h' hs' hD' => ?_
      have J8p : Inv Y pins σ4 H8 s8 := Jw.pins_of fun p hp => Jw.pin p (List.mem_append_right _ (List.mem_append_left _ hp))
      have J9 : Inv Y pins σ4 H8 { s8 with heap := h' } := J8p.turned (t' := s8.toks) (it := D) (fun b o hb e => (hs'.2 b hb).trans e) l1 fD1 fD3 fD4 fD5
      refine ⟨m', hm, i + 1, ys ++ [y], us ++ [xv], k + 1, H8, w8, J9, ?_, l3, l1, ?_, rv.append (.cons r8 .nil)⟩
      · exact T.keep _ _ _ l4 fun b hb o e => (hs'.2 b (fun z => dfp (z ▸ hb))).trans e
      · rw [hD']; simp
end
section
variable {X : Cx} {own : List Str} {fr : List Nat} {sc : Scope} {tg iter tg2 iter2 elt : Expr} {ifs2 : List Expr} {pos : Pos} {wi wi2 : TI} {g : TG} {tt : TT} {te : TE} {i2 : Nat}
theorem lc2_core {pins : List (Addr × Obj)} {σ : St} {H2 : Hp} {s2 : Shared} {Q : VK} {it : Addr} {fp : List Addr} {tn : Nat → Heap → Prop} {J : It} {RR : Value → Addr → Result → Shared → Prop} {E : Value → Shared → Prop} (hc : X.calm = true) (S : CompSc X own fr sc) (gk : GK own.length g)
    (h2l : i2 < own.length) (hg : ∀ s H fp, PG (cxC X own fr sc s H fp) tg g) (hi2 : ∀ s H fp, PI (cxC X own fr sc s H fp) tg2 iter2 wi2) (hg2 : ∀ s H fp, PG (cxC X own fr sc s H fp) tg2 (gName i2)) (ht : ∀ s H fp, PIfs (cxC X own fr sc s H fp) ifs2 tt) (he : ∀ s H fp, PE (cxC X own fr sc s H fp) elt te)
    (hf2 : ∀ s H fp x, foldedSetIterable iter2 (cxC X own fr sc s H fp).env x = pure x)
    (I2 : Inv X pins σ H2 s2) (T : Turn X.prog X.w X.K tg J fp it tn) (st2 : tn 0 s2.heap) (f2 : ∀ b ∈ fp, FpOk X pins H2 b) (L : lcLoop2 own fr g i2 wi2 tt te σ Q J H2)
    (hRR : ∀ D C s', (∃ m, s'.heap.Ns C m) → @LE.le Nat _ s2.heap.objs.size C → (∃ H', H' C = none ∧ Q (.ref D) H' ∧ ∀ h' tk, Heap.SameBut C s'.heap h' → Inv X pins σ H' { s' with heap := h', toks := tk }) → RR (.ref D) C (.ok .next) s') :
    wpAny (model X.prog X.w) X.A (newList []) (fun acc s₃ => wpAny (model X.prog X.w) X.A (newFunctionEnv sc X.env.globals (clOf X.env sc.names []) [] X.env.qual none .none (some X.env)) (fun cenv s₄ =>
      codeAny (model X.prog X.w) X.A (.compStart (.ListComp elt [⟨tg, iter, [], 0⟩, ⟨tg2, iter2, ifs2, 0⟩] sc pos) 0 (.ref it) acc { cenv with scope := relabel sc X.env }) (RR acc cenv.locals) s₄) E s₃) E s2 := by
  obtain ⟨W, ⟨m0, w0⟩, turn⟩ := L
  refine wpAny_newObj_type (newEnv_comp ?_)
  dsimp only
  generalize hh1 : s2.heap.push { cls := .type "list", dict := none, data := .seq ([] : List Value).toArray } = h1
  have hz : h1.objs.size = s2.heap.objs.size + 1 := by rw [← hh1, Heap.size_push]
  have hk1 : ∀ b o, s2.heap.get? b = some o → h1.get? b = some o := fun b o e => by rw [← hh1]; exact Heap.get?_push_of_some _ e
  have hD1 : h1.get? s2.heap.objs.size = some { cls := .type "list", data := .seq ([] : List Value).toArray } := by rw [← hh1]; exact Heap.get?_push_size _ rfl
  have hfl : ∀ b ∈ fp, @LT.lt Nat _ b s2.heap.objs.size := fun b hb => by
    obtain ⟨o, e, _⟩ := T.obj _ _ st2 b hb
    exact Heap.lt_size e
  have I3 := inv_comp I2 S f2 hz hk1 hfl
  rw [hz]
  generalize hY : cxC X own fr sc s2 H2 fp = Y at I3
  have hD3 : (hC s2 sc h1).get? s2.heap.objs.size = some { cls := .type "list", data := .seq ([] : List Value).toArray } := pushCells_keeps _ _ _ _ (Heap.get?_push_of_some _ hD1)
  have st3 : tn 0 (hC s2 sc h1) := T.keep _ _ _ st2 fun b _ o e => pushCells_keeps _ _ _ _ (Heap.get?_push_of_some _ (hk1 b o e))
  have eP : Y.prog = X.prog := by rw [← hY]; rfl
  have eW : Y.w = X.w := by rw [← hY]; rfl
  have eK : Y.K = X.K := by rw [← hY]; rfl
  have eA : Y.A = X.A := by rw [← hY]; rfl
  have eX : Y.xe = Nev := by rw [← hY]; rfl
  have ecm : Y.calm = true := by rw [← hY]; exact hc
  have eEnv : ({ scope := relabel sc X.env, locals := s2.heap.objs.size + 1, globals := X.env.globals, cells := cellsFrom (s2.heap.objs.size + 1 + 1) sc.names (clOf X.env sc.names []), qual := X.env.qual, func := none, code := X.env.code, frame := X.env.frame, builtins := X.env.builtins } : Env) = Y.env := by rw [← hY]; rfl
  have eL : Y.env.locals = s2.heap.objs.size + 1 := by rw [← hY]; rfl
  rw [eEnv]
  have hg' : PG Y tg g := hY ▸ hg s2 H2 fp
  have ht' : PIfs Y ifs2 tt := hY ▸ ht s2 H2 fp
  have hi2' : PI Y tg2 iter2 wi2 := hY ▸ hi2 s2 H2 fp
  have hg2' : PG Y tg2 (gName i2) := hY ▸ hg2 s2 H2 fp
  have hf2' : ∀ x, foldedSetIterable iter2 Y.env x = pure x := hY ▸ hf2 s2 H2 fp
  have he' : PE Y elt te := hY ▸ he s2 H2 fp
  -- the iterator's and the list's places, in the block
  have dfp : s2.heap.objs.size ∉ fp := fun z => Nat.lt_irrefl _ (hfl _ z)
  have dC : s2.heap.objs.size ≠ s2.heap.objs.size + 1 := Nat.ne_of_lt (Nat.lt_succ_self _)
  have cellN : ∀ x c, Y.env.cells.lookup x = some c → c ≠ s2.heap.objs.size := fun x c e z => by
    obtain ⟨v, o, q, d⟩ := I3.cell x c e
    rw [z] at q
    have q' := hD3.symm.trans q
    cases q'
    cases d
  have hDfs : s2.heap.objs.size ∉ Y.fs := by
    rw [← hY]
    intro z
    rcases List.mem_cons.mp (I2.stkSub _ z) with e | e
    · exact Nat.lt_irrefl _ (by have := I2.lt; rw [← e] at this; exact this)
    · exact I2.nofs (Nat.le_refl _) e
  have hD0 : @LE.le Nat _ Y.s₀.heap.objs.size s2.heap.objs.size := by rw [← hY]; exact Nat.le_refl _
  have fpY : ∀ {H' : Hp} {pp : List (Addr × Obj)}, (∀ b ∈ fp, H' b = none) → (∀ p ∈ pp, p.1 ∉ fp) → ∀ b ∈ fp, FpOk Y pp H' b := fun {H' pp} hn hp b hb => by
    refine ⟨hn b hb, ?_, ?_, ?_, ?_, fun p hq z => ?_⟩
    · have := hfl b hb; rw [eL]; intro z; have z' : @Eq Nat b (s2.heap.objs.size + 1) := z; omega
    · rw [← hY]
      intro z
      rcases List.mem_cons.mp (I2.stkSub _ z) with e | e
      · exact (f2 b hb).2.1 e
      · exact (f2 b hb).2.2.1 e
    · exact .inl (by rw [← hY]; exact hb)
    · exact (I3.ok.exf b (by rw [← hY]; exact hb)).2
    · rcases List.mem_append.mp hq with q | q
      · have : p ∈ ([] : List (Addr × Obj)) := by rw [← hY] at q; exact q
        exact nomatch this
      · exact hp p q (z ▸ hb)
  have pinD : ∀ {H' : Hp} {s' : Shared} {σ' : St} {ob : Obj}, Inv Y [] σ' H' s' → H' s2.heap.objs.size = none → s'.heap.get? s2.heap.objs.size = some ob → (∀ v, ob.data ≠ .cell v) → Inv Y [(s2.heap.objs.size, ob)] σ' H' s' := fun {H' s' σ' ob} J0 hn e d =>
    J0.pins_of fun p hp => by
      have : p = (s2.heap.objs.size, ob) := by simpa using hp
      subst this
      exact ⟨e, hn, by rw [eL]; exact dC, hDfs, d⟩
  have fpp : ∀ {ob : Obj} (p : Addr × Obj), p ∈ [(s2.heap.objs.size, ob)] → p.1 ∉ fp := fun {ob} p hp => by
    have : p = (s2.heap.objs.size, ob) := by simpa using hp
    subst this; exact dfp
  have loop : codeAny (model X.prog X.w) X.A (.compLoop (.ListComp elt [⟨tg, iter, [], 0⟩, ⟨tg2, iter2, ifs2, 0⟩] sc pos) 0 (.ref it) (.ref s2.heap.objs.size) Y.env) (RR (.ref s2.heap.objs.size) (s2.heap.objs.size + 1)) { s2 with heap := hC s2 sc h1 } := by
    refine loops_0 (fun n s' => ∃ i ys us k H', W i n ys H' ∧ Inv Y [] (cSt own fr σ) H' s' ∧ tn i s'.heap ∧ (∀ b ∈ fp, H' b = none) ∧ H' s2.heap.objs.size = none ∧ s'.heap.get? s2.heap.objs.size = some { cls := .type "list", data := .seq (List.toArray us) k } ∧ Vals ys us) hf2' ?_ (k := m0)
      ⟨0, [], [], _, H2, w0, I3, st3, fun b hb => (f2 b hb).1, I2.hok.fresh (Nat.le_refl _), hD3, .nil⟩
    rintro n s' ⟨i, ys, us, k, H', w', J0, st', fr', hDn, hDo, rv⟩
    obtain ⟨hyl, cases'⟩ := turn i n ys H' w'
    have J1 := pinD J0 hDn hDo (fun v z => nomatch z)
    rcases cases' with ⟨stop, fin⟩ | ⟨go, step⟩
    · have d0 := T.done Y eP eW eK ecm i _ s' _ H' Nev J1 (fpY fr' fpp) st' stop
      rw [eA] at d0
      refine wpAny_mono d0 (fun r s4 ⟨hr, J4⟩ => ?_) fun _ _ z => z
      subst hr
      have pD := (J4.pin (s2.heap.objs.size, _) (List.mem_append_right _ List.mem_cons_self)).1
      refine hRR _ _ s4 ?_ (Nat.le_succ _) ⟨upd H' s2.heap.objs.size (.lst ys), ?_, fin _ hDn, fun h' tk hs => ?_⟩
      · obtain ⟨m, hn, _⟩ := J4.loc
        rw [eL] at hn
        exact ⟨m, hn⟩
      · rw [upd_ne (Ne.symm dC), ← eL]; exact J4.free
      · subst hY
        have hO : ObjOk X.prog X.w (upd H' s2.heap.objs.size (.lst ys)) h' s2.heap.objs.size (.lst ys) := ⟨hyl, us, k, rv, (hs.2 _ dC).trans pD⟩
        exact inv_back I2 f2 J4 (Nat.le_refl _) hDn dC hs hO tk
    · have d0 := T.item Y eP eW eK ecm i _ s' _ H' Nev J1 (fpY fr' fpp) st' go
      rw [eA] at d0
      refine wpAny_mono d0 (fun r s4 ⟨u, hr, h4⟩ => ?_) fun _ _ z => z
      subst hr
      refine wpAny_mono h4 (fun _ s5 ⟨x, H5, J5, r5, y5, st5, fr5⟩ => ?_) fun _ _ z => z
      have J5' := J5.pinned (fpY fr5 fpp) (T.obj _ _ st5)
      have s1 := hg' _ s5 _ H5 x u _ J5' r5 (gk _ _ _ _ (step x H5 y5))
      rw [eP, eW, eA, eX] at s1
      refine wpAny_mono s1 (fun _ s6 ⟨σ6, H6, J6, ⟨n6, q6⟩, kp6⟩ => ?_) fun _ _ z => z
      have s2' := hi2' _ s6 σ6 H6 _ J6 q6
      rw [eP, eW, eA, eX] at s2'
      refine wpAny_mono s2' (fun v7 s7 h7 => wpAny_mono h7 (fun itv s8 h8 => ?_) fun _ _ z => z) fun _ _ z => z
      obtain ⟨it2, fp2, tn2, J2, H8, e8, J8, T2, st8, f8, L2⟩ := h8
      subst e8
      have pD := J8.pin (s2.heap.objs.size, _) (List.mem_append_right _ (List.mem_append_left _ List.mem_cons_self))
      have J9 : Inv Y (pinsAt fp s5.heap) σ6 H8 s8 := J8.pins_of fun p hp => J8.pin p (List.mem_append_right _ (List.mem_append_right _ hp))
      have sub : ∀ {p : Addr × Obj}, p ∈ Y.pn ++ pinsAt fp s5.heap → p ∈ Y.pn ++ ([(s2.heap.objs.size, ({ cls := .type "list", data := .seq (List.toArray us) k } : Obj))] ++ pinsAt fp s5.heap) := fun hp => by
        rcases List.mem_append.mp hp with q | q
        · exact List.mem_append_left _ q
        · exact List.mem_append_right _ (List.mem_append_right _ q)
      have f9 : ∀ b ∈ fp2, FpOk Y (pinsAt fp s5.heap) H8 b := fun b hb => by
        obtain ⟨a0, a1, a2, a3, a4, a5⟩ := f8 b hb
        exact ⟨a0, a1, a2, a3, a4, fun p hp => a5 p (sub hp)⟩
      have d9 : s2.heap.objs.size ∉ fp2 := fun z => (f8 _ z).2.2.2.2.2 (s2.heap.objs.size, _) (List.mem_append_right _ (List.mem_append_left _ List.mem_cons_self)) rfl
      have fD : FpOk Y (pinsAt fp s5.heap) H8 s2.heap.objs.size := by
        refine ⟨pD.2.1, by rw [eL]; exact dC, hDfs, .inr hD0, cellN, fun p hp z => ?_⟩
        rcases List.mem_append.mp hp with q | q
        · have : p ∈ ([] : List (Addr × Obj)) := by rw [← hY] at q; exact q
          exact nomatch this
        · exact dfp (z ▸ (of_pinsAt q).1)
      have inn := inner_core (elt := elt) (iter2 := iter2) (c1 := ⟨tg, iter, [], 0⟩) (sc := sc) (pos := pos) (R := fun r u => r = .ok .next ∧ ∃ j, j < n ∧ ∃ i ys us k H', W i j ys H' ∧ Inv Y [] (cSt own fr σ) H' u ∧ tn i u.heap ∧ (∀ b ∈ fp, H' b = none) ∧ H' s2.heap.objs.size = none ∧ u.heap.get? s2.heap.objs.size = some { cls := .type "list", data := .seq (List.toArray us) k } ∧ Vals ys us)
        ecm eX hg2' ht' he' n6 J9 T2 st8 f9 fD d9 pD.1 rv L2 (fun ys1 us1 k1 H9 s9 hw J10 hn10 hD10 rv10 => by
          obtain ⟨m', hm, w9⟩ := hw
          refine ⟨rfl, m', hm, i + 1, ys1, us1, k1, H9, w9, ?_, ?_, fun b hb => ?_, hn10, hD10, rv10⟩
          · refine (J10.weak kp6.1.symm (fun j v e => ?_)).pins_of fun p hp => nomatch hp
            by_cases hj : j < own.length
            · exfalso
              unfold cSt at e
              rw [List.getElem?_append_left (by simpa using hj), List.getElem?_replicate] at e
              split at e <;> cases e
            · rw [kp6.2 j (Nat.not_lt.mp hj)]; exact e
          · exact T.keep _ _ _ st5 fun b hb o e => (J10.pin (b, o) (List.mem_append_right _ (mem_pinsAt hb e))).1
          · obtain ⟨o, e, d⟩ := T.obj _ _ st5 b hb
            exact (J10.pin (b, o) (List.mem_append_right _ (mem_pinsAt hb e))).2.1)
      rw [eP, eW, eA] at inn
      refine start_1 inn ?_
      have z := fun Q E => T2.self X.A 0 s8 Q E st8
      rw [eP, eW] at z
      exact z _ _ inn
  exact codeAny_compStart_list loop (T.self X.A 0 _ _ _ st3 loop)
/-- [elt for tg in iter for name in iter2 if ..] -/
theorem pe_lc2 (own : List Str) (fr : List Nat) (hc : X.calm = true) (S : CompSc X own fr sc) (gk : GK own.length g) (h2l : i2 < own.length) (hi : PI X tg iter wi)
    (hg : ∀ s H fp, PG (cxC X own fr sc s H fp) tg g) (hi2 : ∀ s H fp, PI (cxC X own fr sc s H fp) tg2 iter2 wi2) (hg2 : ∀ s H fp, PG (cxC X own fr sc s H fp) tg2 (gName i2)) (ht : ∀ s H fp, PIfs (cxC X own fr sc s H fp) ifs2 tt) (he : ∀ s H fp, PE (cxC X own fr sc s H fp) elt te)
    (hs : ∀ x, foldedSetIterable iter X.env x = pure x := by intro _; rfl) (hf2 : ∀ s H fp x, foldedSetIterable iter2 (cxC X own fr sc s H fp).env x = pure x := by intro _ _ _ _; rfl) : PE X (.ListComp elt [⟨tg, iter, [], 0⟩, ⟨tg2, iter2, ifs2, 0⟩] sc pos) (tLC2 own fr wi g i2 wi2 tt te) := by
  intro pins s σ H Q I h
  rw [eval_ListComp]
  have hclos : closureFor sc X.env = pure (clOf X.env sc.names []) := closureFor_of fun y hy hf => I.ok.has y.1 (by
    rcases S.fre y hy hf with q | q
    · exact .inl q
    · exact .inr q)
  refine wpAny_comprehension_free (use := none) rfl hs hclos S.kind (fun y hy hl => lookup_of_mem_nd S.nd (by rw [← hl]; exact hy)) ?_
  refine thn (hi pins s σ H _ I h) fun v s1 h1 => thn h1 fun itv s2 h2 => ?_
  obtain ⟨it, fp, tn, J, H2, e, I2, T, st2, f2, L⟩ := h2
  subst e
  exact lc2_core hc S gk h2l hg hi2 hg2 ht he hf2 I2 T st2 f2 L fun D C s' ⟨m, hn⟩ _ ⟨H', _, q, hi⟩ => ⟨m, hn, fun h' hs' => ⟨.ref D, H', hi h' s'.toks hs', rfl, q⟩⟩
end
end L2

set_option Elab.async false
set_option linter.all false
set_option maxRecDepth 100000
set_option maxHeartbeats 4000000
namespace L2
open PySem PySem.Spec PyProof.Rows
/-! ### repr -/
def dTup (zs : List Str) : PyData := .tuple (zs.map .str)
theorem reads_strs (h : Heap) : ∀ {zs : List Str} {us : List Value}, Vals (zs.map V.str) us → ReadsAll h us (zs.map .str) []
  | [], _, .nil => .nil
  | z :: zs, _, .cons r t => by obtain ⟨k, rfl⟩ := (show ∃ k, _ = Value.str z k from r); exact .cons (as := []) (bs := []) (.str z k) (reads_strs h t)
theorem noD_strs : ∀ zs : List Str, PyData.hasDictAll (zs.map .str) = false
  | [] => by simp [PyData.hasDictAll]
  | z :: zs => by simp [PyData.hasDictAll, PyData.hasDict, noD_strs zs]
theorem show_strs : ∀ zs : List Str, PyData.showableAll (zs.map .str) = true
  | [] => by simp [PyData.showableAll]
  | z :: zs => by simp [PyData.showableAll, PyData.showable, show_strs zs]
theorem dep_strs : ∀ zs : List Str, PyData.depthAll (zs.map .str) = 0
  | [] => by simp [PyData.depthAll]
  | z :: zs => by simp [PyData.depthAll, PyData.depth, dep_strs zs]
theorem shown_strs : ∀ zs : List Str, PyData.shownAll (zs.map .str) = zs.map reprText
  | [] => by simp [PyData.shownAll]
  | z :: zs => by simp [PyData.shownAll, PyData.shown, shown_strs zs]
theorem sum_le {l : List Nat} {k : Nat} (h : ∀ x ∈ l, x ≤ k) : l.sum ≤ l.length * k := by
  induction l with
  | nil => simp
  | cons x l ih =>
    have a := h x List.mem_cons_self
    have b := ih fun y hy => h y (List.mem_cons_of_mem _ hy)
    rw [List.sum_cons, List.length_cons, Nat.succ_mul]
    omega
theorem from_le : ∀ (ts : List Str) (k : Nat) (acc : Str), (textFrom k acc ts).length ≤ acc.length + (ts.map (·.length)).sum + 2 * ts.length
  | [], k, acc => by show acc.length ≤ _; omega
  | t :: ts, k, acc => by
    show (textFrom (k + 1) (acc ++ (if k > 0 then ", " else "" : String) ++ t) ts).length ≤ _
    refine Nat.le_trans (from_le ts (k + 1) _) ?_
    rw [Str.length_append, Str.length_append, List.map_cons, List.sum_cons, List.length_cons]
    have e : ((if k > 0 then ", " else "" : String) : Str).length ≤ 2 := by split <;> decide +kernel
    omega
section
variable {X : Cx}
end
end L2

set_option Elab.async false
set_option linter.all false
set_option maxRecDepth 100000
set_option maxHeartbeats 4000000
namespace L2
open PySem PySem.Spec PyProof.Rows
/-! ### repr of a list of tuples -/
/-- a tuple's items as data, none of them an object -/
def RdF (xs : List V) (ds : List PyData) : Prop := ∀ (h : Heap) us, Vals xs us → ReadsAll h us ds []
def TupD (K : PySem.W.Frag) (H : Hp) (u : Addr) (d : PyData) : Prop := ∃ xs ds, SqT K H u xs ∧ RdF xs ds ∧ d = .tuple ds
theorem rdF_strs (zs : List Str) : RdF (zs.map V.str) (zs.map .str) := fun h us r => reads_strs h r
section
variable {X : Cx}
theorem reads_tups {pins : List (Addr × Obj)} {σ : St} {H : Hp} {s : Shared} (I : Inv X pins σ H s) : ∀ {us : List Addr} {ds : List PyData} {vs : List Value}, Paired (TupD X.K H) us ds → Vals (us.map V.ref) vs → ReadsAll s.heap vs ds []
  | [], _, _, .nil, .nil => .nil
  | u :: us, _, _, .cons h t, .cons r rs => by
    obtain ⟨xs, ds, hq, rd, rfl⟩ := h
    cases r
    obtain ⟨its, rv, pl, _⟩ := I.tuple hq
    obtain ⟨o, ho, hc, n, hd⟩ := pl
    exact .cons (as := []) (bs := []) (.tuple ho hc hd (by simpa using rd s.heap its rv)) (reads_tups I t rs)
/-- the texts of what a list of tuples holds -/
structure ShowL (ds : List PyData) : Prop where
  sh : PyData.showableAll ds = true
  nd : PyData.hasDictAll ds = false
  dp : PyData.depthAll ds ≤ 1
  ln : (PyData.list ds).shown.length ≤ sizeLine
theorem call_repr_lt {K : PySem.W.Frag} (hg : X.A.guards = some []) (hu : X.A.units + 64 < cLine) (hK : X.K = K := by rfl) : CallR X (.builtin "repr") (fun xs H Q => ∃ (a : Addr) (us : List Addr) (ds : List PyData), xs = [.ref a] ∧ SqL K H a (us.map V.ref) ∧ Paired (TupD K H) us ds ∧ ShowL ds ∧ Q (.str (PyData.list ds).shown) H) := by
  subst hK
  intro pins s σ H xs us Q I r h
  obtain ⟨a, vs, ds, rfl, hq, hp, hs, q⟩ := h
  obtain ⟨u, rfl, ru⟩ := vals1 r
  cases ru
  obtain ⟨its, rv, pl, _⟩ := I.list hq
  obtain ⟨o, ho, hc, n, hd⟩ := pl.isList
  have dp : (PyData.list ds).depth ≤ 2 := by rw [PyData.depth]; have := hs.dp; omega
  exact repr_of_reads' (h₀ := s.heap) (d := .list ds) (.list ho hc hd (by simpa using reads_tups I hp rv)) (by rw [PyData.showable, hs.sh]) (PyData.noDict_hsm (by rw [PyData.hasDict, hs.nd])) hg (by omega) (fun _ _ e => e) (fun h' u tk hk => ⟨.str _, H, I.kept hk, ⟨u, rfl⟩, q⟩) hs.ln
end
theorem showL_of {ds : List PyData} {k : Nat} (h : ∀ d ∈ ds, d.showable = true ∧ d.hasDict = false ∧ d.depth ≤ 1 ∧ d.shown.length ≤ k) (hk : ds.length * (k + 2) + 2 ≤ sizeLine) : ShowL ds := by
  have a : ∀ {ds : List PyData}, (∀ d ∈ ds, d.showable = true ∧ d.hasDict = false ∧ d.depth ≤ 1 ∧ d.shown.length ≤ k) → PyData.showableAll ds = true ∧ PyData.hasDictAll ds = false ∧ PyData.depthAll ds ≤ 1 ∧ ((PyData.shownAll ds).map (·.length)).sum ≤ ds.length * k ∧ (PyData.shownAll ds).length = ds.length := by
    intro ds
    induction ds with
    | nil => intro _; simp [PyData.showableAll, PyData.hasDictAll, PyData.depthAll, PyData.shownAll]
    | cons d ds ih =>
      intro h
      obtain ⟨b1, b2, b3, b4, b5⟩ := ih fun x hx => h x (List.mem_cons_of_mem _ hx)
      obtain ⟨c1, c2, c3, c4⟩ := h d List.mem_cons_self
      refine ⟨by rw [PyData.showableAll, b1, c1]; rfl, by rw [PyData.hasDictAll, b2, c2]; rfl, by rw [PyData.depthAll]; omega, ?_, by rw [PyData.shownAll, List.length_cons, List.length_cons, b5]⟩
      rw [PyData.shownAll, List.map_cons, List.sum_cons, List.length_cons, Nat.succ_mul]
      omega
  obtain ⟨b1, b2, b3, b4, b5⟩ := a h
  refine ⟨b1, b2, b3, ?_⟩
  rw [PyData.shown]
  unfold listText
  rw [Str.length_append]
  have e := from_le (PyData.shownAll ds) 0 "["
  have c : ("[" : Str).length = 1 := by decide +kernel
  have d : ("]" : Str).length = 1 := by decide +kernel
  rw [c, b5] at e
  rw [d]
  have f : ds.length * (k + 2) = ds.length * k + 2 * ds.length := by rw [Nat.mul_add]; omega
  omega
/-! tuples of two small numbers, tuples of texts -/
def PrsAt (H : Hp) : List Addr → List (Nat × Nat) → Prop := Paired fun u p => H u = some (.tup [.int (p.1 : Nat), .int (p.2 : Nat)])
theorem PrsAt.mono {H H' : Hp} {us : List Addr} {ps : List (Nat × Nat)} (h : PrsAt H us ps) (k : ∀ t xs, H t = some (.tup xs) → H' t = some (.tup xs)) : PrsAt H' us ps := Paired.mapP h fun t p e => k t _ e
theorem PrsAt.same {H H' : Hp} {us : List Addr} {ps : List (Nat × Nat)} (h : PrsAt H us ps) (s : Same H H') : PrsAt H' us ps := h.mono fun t xs e => s t _ e
theorem PrsAt.len {H : Hp} : ∀ {us : List Addr} {ps : List (Nat × Nat)}, PrsAt H us ps → us.length = ps.length
  | [], _, .nil => rfl
  | _ :: _, _, .cons _ t => by rw [List.length_cons, List.length_cons, PrsAt.len t]
theorem PrsAt.get {H : Hp} : ∀ {us : List Addr} {ps : List (Nat × Nat)} {i : Nat} {u : Addr}, PrsAt H us ps → us[i]? = some u → ∃ p, ps[i]? = some p ∧ H u = some (.tup [.int (p.1 : Nat), .int (p.2 : Nat)])
  | _, _, 0, _, .cons r _, e => by cases e; exact ⟨_, rfl, r⟩
  | _, _, i + 1, _, .cons _ t, e => by simpa using PrsAt.get (i := i) t (by simpa using e)
theorem PrsAt.snoc {H : Hp} : ∀ {us : List Addr} {ps : List (Nat × Nat)} {u : Addr} {p : Nat × Nat}, PrsAt H us ps → H u = some (.tup [.int (p.1 : Nat), .int (p.2 : Nat)]) → PrsAt H (us ++ [u]) (ps ++ [p])
  | [], _, _, _, .nil, e => .cons e .nil
  | _ :: _, _, _, _, .cons r t, e => .cons r (PrsAt.snoc t e)
theorem tup_show {zs : List Str} (h : ∀ z ∈ zs, (reprText z).length ≤ 100) (l : zs.length ≤ 100) : (dTup zs).showable = true ∧ (dTup zs).hasDict = false ∧ (dTup zs).depth ≤ 1 ∧ (dTup zs).shown.length ≤ 10300 := by
  refine ⟨by unfold dTup; rw [PyData.showable, show_strs], by unfold dTup; rw [PyData.hasDict, noD_strs], by unfold dTup; rw [PyData.depth, dep_strs]; exact Nat.le_refl _, ?_⟩
  show (PyData.shown (.tuple (zs.map .str))).length ≤ _
  rw [PyData.shown, shown_strs]
  unfold tupleText
  rw [Str.length_append, Str.length_append]
  have a := StrLaws.join_length_le ", " (zs.map reprText)
  have b : ((zs.map reprText).map (·.length)).sum ≤ 100 * 100 := by
    refine Nat.le_trans (sum_le (k := 100) fun x hx => ?_) ?_
    · obtain ⟨y, hy, rfl⟩ := List.mem_map.mp hx
      obtain ⟨z, hz, rfl⟩ := List.mem_map.mp hy
      exact h z hz
    · rw [List.length_map, List.length_map]; exact Nat.mul_le_mul_right _ l
  have c : (", " : Str).length = 2 := by decide +kernel
  have d : ("(" : Str).length = 1 := by decide +kernel
  have e : ((if (zs.map reprText).length == 1 then ",)" else ")" : String) : Str).length ≤ 2 := by split <;> decide +kernel
  rw [c, List.length_map] at a
  rw [d]
  omega
theorem cuts_show {zss : List (List Str)} (h : ∀ zs ∈ zss, zs.length ≤ 100 ∧ ∀ z ∈ zs, (reprText z).length ≤ 100) (l : zss.length ≤ 100) : ShowL (zss.map dTup) := by
  refine showL_of (k := 10300) (fun d hd => ?_) ?_
  · obtain ⟨zs, hz, rfl⟩ := List.mem_map.mp hd
    exact tup_show (h zs hz).2 (h zs hz).1
  · rw [List.length_map]
    have f : 2000000 ≤ sizeLine := by decide
    have : zss.length * (10300 + 2) ≤ 100 * (10300 + 2) := Nat.mul_le_mul_right _ l
    omega
end L2

set_option Elab.async false
set_option linter.all false
set_option maxRecDepth 100000
set_option maxHeartbeats 4000000
namespace K34
open PySem PySem.Spec PyProof.Rows L2
abbrev sPairs : Stmt := top 27 -- pairs_of
/-! ### pairs of numbers, the lesser first -/
def prsI (n i : Nat) : List (Nat × Nat) := (List.range (n - (i + 1))).map fun j => (i, i + 1 + j)
def prsT (n k : Nat) : List (Nat × Nat) := (List.range k).flatMap (prsI n)
theorem prsT_succ (n k : Nat) : prsT n (k + 1) = prsT n k ++ prsI n k := by
  unfold prsT; rw [List.range_succ, List.flatMap_append]; simp
theorem prsI_len (n i : Nat) : (prsI n i).length = n - (i + 1) := by unfold prsI; simp
theorem prsT_len (n : Nat) : ∀ k, (prsT n k).length ≤ k * n
  | 0 => by simp [prsT]
  | k + 1 => by rw [prsT_succ, List.length_append, prsI_len]; have := prsT_len n k; rw [Nat.succ_mul]; omega
theorem prsI_mem {n i : Nat} {p : Nat × Nat} (h : p ∈ prsI n i) : p.1 = i ∧ i < p.2 ∧ p.2 < n := by
  obtain ⟨j, hj, rfl⟩ := List.mem_map.mp h
  have := List.mem_range.mp hj
  exact ⟨rfl, by show i < i + 1 + j; omega, by show i + 1 + j < n; omega⟩
theorem prsT_mem {n k : Nat} {p : Nat × Nat} (h : p ∈ prsT n k) : p.1 < k ∧ p.1 < p.2 ∧ p.2 < n := by
  obtain ⟨i, hi, hp⟩ := List.mem_flatMap.mp h
  obtain ⟨a, b, c⟩ := prsI_mem hp
  have := List.mem_range.mp hi
  exact ⟨by omega, by omega, c⟩
section
variable {P : Program} {w : World} {K : PySem.W.Frag} {mg : Str → Option Value} {base : Heap}
def spPairs : Sp := fun vs H Q _ => ∃ n : Nat, vs = [.int n] ∧ n ≤ 100 ∧ ∀ q us H', H q = none → H' q = some (.lst (us.map V.ref)) → PrsAt H' us (prsT n n) → Same H H' → Q (.ref q) H'
theorem scPs : FnScope ["many"] ["many"] (defScope sPairs) := ⟨rfl, rfl, rfl, by decide +kernel, rfl, by decide +kernel, by decide +kernel⟩
theorem ok_pairs {f : Addr} {fd : FuncData} (F : Fun K "pairs_of" "pairs_of" sPairs f fd) (T : Glb mg) : FnOk P w K mg base CX0 1 f fd ["many"] spPairs := by
  refine F.ok scPs (fun vs H Q E h => ?_) (fun cdv A outer s H vs Q E hr h => ?_)
  · obtain ⟨n, rfl, _⟩ := h
    rfl
  · obtain ⟨n, rfl, hn, k⟩ := h
    refine ⟨_, pss_one (ps_ret (pe_lc2 (i2 := 1) ["i", "j"] [0] rfl (compSc (osc := (defScope sPairs).names) (N := ["many"]) rfl rfl (by decide +kernel)) (gk_name (by decide)) (by decide) (pi_range1 rfl T.range (pa_cons (pv 0) pa_nil))
      (fun _ _ _ => pg_name (i := 0) (show (["i", "j", "many"] : List Str).Nodup by decide +kernel) rfl (Or.inl rfl))
      (fun _ _ _ => pi_range2 rfl T.range (pa_cons (pe_op op_add (pv 0) pe_int) (pa_cons (pv 2) pa_nil)))
      (fun _ _ _ => pg_name (i := 1) (show (["i", "j", "many"] : List Str).Nodup by decide +kernel) rfl (Or.inl rfl))
      (fun _ _ _ => pifs_nil) (fun _ _ _ => pe_tup (pa_cons (pv 0) (pa_cons (pv 1) pa_nil))))), ?_⟩
    refine ⟨_, rfl, _, rfl, by omega, by omega, ?_⟩
    rw [Int.toNat_natCast]
    have nn : n * n ≤ 100 * 100 := Nat.mul_le_mul hn hn
    have sz : 20000 ≤ sizeLine := by decide
    refine ⟨fun i m ys H2 => m = n - i ∧ i ≤ n ∧ ∃ us, ys = us.map V.ref ∧ PrsAt H2 us (prsT n i) ∧ Same H H2, ⟨n, rfl, Nat.zero_le _, [], rfl, .nil, Same.refl _⟩, ?_⟩
    rintro i m ys H2 ⟨rfl, hi, us, rfl, hP, s2⟩
    have li : i * n ≤ n * n := Nat.mul_le_mul_right _ hi
    have lu : us.length = (prsT n i).length := hP.len
    refine ⟨by rw [List.length_map]; have := prsT_len n i; omega, ?_⟩
    by_cases h : i < n
    · refine .inr ⟨h, fun x H3 hy => ?_⟩
      obtain ⟨rfl, rfl⟩ := hy
      refine ⟨rfl, ?_⟩
      refine ⟨_, rfl, _, _, rfl, rfl, _, rfl, _, _, rfl, by omega, ?_⟩
      have e : ((n : Int) - (0 + (i : Int) + 1)).toNat = n - (i + 1) := by omega
      rw [e]
      refine ⟨fun j m ys H4 => m = n - (i + 1) - j ∧ j ≤ n - (i + 1) ∧ ∃ us, ys = us.map V.ref ∧ PrsAt H4 us (prsT n i ++ (prsI n i).take j) ∧ Same H H4, ⟨n - (i + 1), rfl, Nat.zero_le _, us, rfl, by simpa using hP, s2⟩, ?_⟩
      rintro j m ys H4 ⟨rfl, hj, vs, rfl, hP4, s4⟩
      have lv : vs.length ≤ i * n + n := by
        rw [hP4.len, List.length_append, List.length_take, prsI_len]
        have := prsT_len n i
        omega
      refine ⟨by rw [List.length_map]; omega, ?_⟩
      by_cases hj' : j < n - (i + 1)
      · refine .inr ⟨hj', fun x H5 hy => ?_⟩
        obtain ⟨rfl, rfl⟩ := hy
        refine ⟨_, rfl, _, rfl, (show 2 ≤ sizeLine by decide), fun p hp => ?_⟩
        refine ⟨n - (i + 1) - (j + 1), by omega, rfl, by omega, vs ++ [p], by simp, ?_, s4.trans (same_upd hp)⟩
        have e2 : (prsI n i).take (j + 1) = (prsI n i).take j ++ [(i, i + 1 + j)] := by
          rw [List.take_add_one]
          congr 1
          unfold prsI
          simp [hj']
        rw [e2, ← List.append_assoc]
        refine PrsAt.snoc (hP4.same (same_upd hp)) ?_
        rw [upd_same]
        have e3 : (0 + (i : Int)) = (i : Nat) := by omega
        have e4 : (0 + (i : Int) + 1 + (j : Int)) = ((i + 1 + j : Nat) : Int) := by omega
        rw [e3] at *
        show some (HO.tup [V.int (i : Nat), V.int ((i : Int) + 1 + (j : Int))]) = _
        congr 4
      · have ej : j = n - (i + 1) := by omega
        subst ej
        refine .inl ⟨Nat.le_refl _, n - (i + 1), by omega, rfl, h, vs, rfl, ?_, s4⟩
        rw [prsT_succ]
        rw [List.take_of_length_le (Nat.le_of_eq (prsI_len n i))] at hP4
        exact hP4
    · have ei : i = n := by omega
      subst ei
      refine .inl ⟨Nat.le_refl _, fun D hD => ?_⟩
      exact k D us _ (s2.free hD) upd_same (hP.same (same_upd hD)) (s2.trans (same_upd hD))
end
end K34

set_option Elab.async false
set_option linter.all false
set_option maxRecDepth 100000
set_option maxHeartbeats 4000000
namespace L2
open PySem PySem.Spec PyProof.Rows
section
variable {X : Cx} {a b c d : Expr} {ta tb tc td : TE} {pos : Pos}
/-- a op1 b op2 c op3 d -/
def tChain3 (r r' r'' : R2) (ta tb tc td : TE) : TE := fun σ H Q => ta σ H fun x H1 => tb σ H1 fun y H2 => r x y H2 fun z H3 => ∃ k, z = .bl k ∧
  (if k = true then tc σ H3 fun w' H4 => r' y w' H4 fun z' H5 => ∃ k', z' = .bl k' ∧ (if k' = true then td σ H5 fun v' H6 => r'' w' v' H6 Q else Q (.bl false) H5) else Q (.bl false) H3)
end
end L2

set_option Elab.async false
set_option linter.all false
set_option maxRecDepth 100000
set_option maxHeartbeats 4000000
namespace K34
open PySem PySem.Spec PyProof.Rows L2
abbrev sBehind : Stmt := top 28 -- behind
def crs (ns : List Str) (zss : List (List Str)) (p : Nat × Nat) : Bool := crossP ns (zss.getD p.1 []) (zss.getD p.2 [])
def stepsP (ns : List Str) (zss : List (List Str)) : List (Nat × Nat) := (prsT zss.length zss.length).filter (crs ns zss)
theorem getD_of {zss : List (List Str)} {i : Nat} {zs : List Str} (h : zss[i]? = some zs) : zss.getD i [] = zs := by rw [List.getD_eq_getElem?_getD, h]; rfl
def Fam (C : Addr) (H : Hp) (x l : Addr) (ns ms : List Str) (ps : List (Str × Str)) (us : List Addr) (zss : List (List Str)) : Prop :=
  WebObj C H x ms ps ∧ ms.Perm ns ∧ GoodW ms ps ∧ H l = some (.lst (us.map V.ref)) ∧ CutsAt H us zss ∧ (∀ zs ∈ zss, IsC ns ps zs) ∧ us.length ≤ 100
theorem Fam.same {C : Addr} {H H' : Hp} {x l : Addr} {ns ms : List Str} {ps : List (Str × Str)} {us : List Addr} {zss : List (List Str)} (h : Fam C H x l ns ms ps us zss) (s : Same H H') : Fam C H' x l ns ms ps us zss :=
  let ⟨a, b, c, d, e, f, g⟩ := h; ⟨a.same s, b, c, s _ _ d, e.same s, f, g⟩
theorem ixN_nat {n k : Nat} (h : k < n) : ixN n (k : Int) = some k := by
  unfold ixN
  rw [if_pos (by omega), if_pos (by omega), Int.toNat_natCast]
def behindP (ns : List Str) (zss : List (List Str)) (p : Nat × Nat) : List (List Str) := (zss.set p.1 (both ns (zss.getD p.1 []) (zss.getD p.2 []))).set p.2 (either ns (zss.getD p.1 []) (zss.getD p.2 []))
theorem behindP_len (ns : List Str) (zss : List (List Str)) (p : Nat × Nat) : (behindP ns zss p).length = zss.length := by simp [behindP]
theorem CutsAt.set {H : Hp} : ∀ {us : List Addr} {zss : List (List Str)} {i : Nat} {u : Addr} {zs : List Str}, CutsAt H us zss → H u = some (.tup (zs.map V.str)) → CutsAt H (us.set i u) (zss.set i zs)
  | [], _, _, _, _, .nil, _ => .nil
  | _ :: _, _, 0, _, _, .cons _ t, e => .cons e t
  | _ :: _, _, i + 1, _, _, .cons r t, e => .cons r (CutsAt.set (i := i) t e)
section
variable {P : Program} {w : World} {K : PySem.W.Frag} {mg : Str → Option Value} {base : Heap}
variable {C fP fS fA fPt fCu fB fO fR fCc fF fPs fCP fW fIP fBh : Addr} {fdP fdS fdA fdPt fdCu fdB fdO fdR fdCc fdF fdPs fdCP fdW fdIP fdBh : FuncData}
/-! ### behind a step -/
def spBehind (C : Addr) : Sp := fun vs H Q _ => ∃ (x l : Addr) (ms : List Str) (ps : List (Str × Str)) (us : List Addr) (zss : List (List Str)) (p : Nat × Nat), vs = [.ref x, .ref l, .int (p.1 : Nat), .int (p.2 : Nat)] ∧ WebObj C H x ms ps ∧ ms.length ≤ 12 ∧ H l = some (.lst (us.map V.ref)) ∧ CutsAt H us zss ∧ p.1 < p.2 ∧ p.2 < us.length ∧
  ∀ q ts H', H q = none → H' q = some (.lst (ts.map V.ref)) → CutsAt H' ts (behindP (srt ms) zss p) → Same H H' → Q (.ref q) H'
abbrev nBh : List Str := ["web", "family", "i", "j", "after"]
theorem scBh : FnScope nBh ["web", "family", "i", "j"] (defScope sBehind) := ⟨rfl, rfl, rfl, by decide +kernel, rfl, by decide +kernel, by decide +kernel⟩
theorem ok_behind {f : Addr} {fd : FuncData} (F : Fun K "behind" "behind" sBehind f fd) (M : Mt K mg C fP fS fdP fdS) (DB : Df K mg "had_by_both" sHBB nHB fB fdB) (DO : Df K mg "had_by_one" sHBO nHB fO fdO) (T : Glb mg) : FnOk P w K mg base CX0 3 f fd ["web", "family", "i", "j"] (spBehind C) := by
  have GB : FnOk P w K mg base CX0 2 fB fdB nHB (spHBB C) := ok_hbb DB.fn M T
  have GO : FnOk P w K mg base CX0 2 fO fdO nHB (spHBO C) := ok_hbo DO.fn M T
  refine F.ok scBh (fun vs H Q E h => ?_) (fun cdv A outer s H vs Q E hr h => ?_)
  · obtain ⟨x, l, ms, ps, us, zss, p, rfl, _⟩ := h
    rfl
  · obtain ⟨x, l, ms, ps, us, zss, p, rfl, hW, lm, hl, hC, lt, ln, k⟩ := h
    refine ⟨_, pss_cons (ps_set (i := 4) scBh.nd rfl (Or.inl rfl) (pe_callTy call_list_of (by rfl) T.list PyProof.Rows.boot_list (pa_cons (pv 1) pa_nil)))
      (pss_cons (ps_asg (pe_call GB hr rfl DB.mgf DB.fn.kp DB.b .nil pass0 (pa_cons (pv 0) (pa_cons (pe_ix ix_list (pv 1) (pv 2) (fun _ _ => rfl)) (pa_cons (pe_ix ix_list (pv 1) (pv 3) (fun _ _ => rfl)) pa_nil)))) (pg_sub (pv 4) (pv 2) set_list))
      (pss_cons (ps_asg (pe_call GO hr rfl DO.mgf DO.fn.kp DO.b .nil pass0 (pa_cons (pv 0) (pa_cons (pe_ix ix_list (pv 1) (pv 2) (fun _ _ => rfl)) (pa_cons (pe_ix ix_list (pv 1) (pv 3) (fun _ _ => rfl)) pa_nil)))) (pg_sub (pv 4) (pv 3) set_list))
      (pss_one (ps_ret (pv 4))))), ?_⟩
    refine ⟨_, rfl, l, _, rfl, .inl (SqL.of hl), fun q hq => ?_⟩
    have s1 := same_upd (o := .lst (us.map V.ref)) hq
    have hq1 := upd_same (H := H) (a := q) (o := .lst (us.map V.ref))
    change tSeq _ _ _ _ (upd H q (.lst (us.map V.ref)))
    generalize upd H q (.lst (us.map V.ref)) = H1 at s1 hq1 ⊢
    have b1 : p.1 < us.length := by omega
    have e1 : us[p.1]? = some us[p.1] := List.getElem?_eq_getElem b1
    have e2 : us[p.2]? = some us[p.2] := List.getElem?_eq_getElem ln
    have a1 : atI (us.map V.ref) ((p.1 : Nat) : Int) = some (.ref us[p.1]) := atI_nat (j := p.1) (by simp [b1])
    have a2 : atI (us.map V.ref) ((p.2 : Nat) : Int) = some (.ref us[p.2]) := atI_nat (j := p.2) (by simp [ln])
    obtain ⟨xs, ex, hx⟩ := hC.get e1
    obtain ⟨zs, ez, hz⟩ := hC.get e2
    refine ⟨_, rfl, _, rfl, _, rfl, l, _, _, _, rfl, rfl, SqL.of (s1 _ _ hl), a1, _, rfl, _, rfl, l, _, _, _, rfl, rfl, SqL.of (s1 _ _ hl), a2, ?_⟩
    refine ⟨x, us[p.1], us[p.2], ms, xs, zs, ps, rfl, hW.same s1, lm, s1 _ _ hx, s1 _ _ hz, fun l1 H2 hl1 s2 => ?_⟩
    have hq2 := s2 _ _ hq1
    refine ⟨_, rfl, _, rfl, q, _, _, p.1, rfl, rfl, hq2, ixN_nat (by simp [b1]), ?_⟩
    have n1 : l1 ≠ q := ne_of hl1 hq2 (by intro z; cases z)
    have s3 : Same H (upd H2 q (.lst ((us.map V.ref).set p.1 (.ref l1)))) := Same.upd_new (s1.trans s2) hq
    have hq3 := upd_same (H := H2) (a := q) (o := .lst ((us.map V.ref).set p.1 (.ref l1)))
    have hl3 : (upd H2 q (.lst ((us.map V.ref).set p.1 (.ref l1)))) l1 = some (.tup ((both (srt ms) xs zs).map V.str)) := by rw [L2.upd_ne n1]; exact hl1
    show tSeq _ _ _ _ (upd H2 q (.lst ((us.map V.ref).set p.1 (.ref l1))))
    generalize upd H2 q (.lst ((us.map V.ref).set p.1 (.ref l1))) = H3 at s3 hq3 hl3 ⊢
    refine ⟨_, rfl, _, rfl, _, rfl, l, _, _, _, rfl, rfl, SqL.of (s3 _ _ hl), a1, _, rfl, _, rfl, l, _, _, _, rfl, rfl, SqL.of (s3 _ _ hl), a2, ?_⟩
    refine ⟨x, us[p.1], us[p.2], ms, xs, zs, ps, rfl, hW.same s3, lm, s3 _ _ hx, s3 _ _ hz, fun l2 H4 hl2 s4 => ?_⟩
    have hq4 := s4 _ _ hq3
    refine ⟨_, rfl, _, rfl, q, _, _, p.2, rfl, rfl, hq4, ixN_nat (by simp [ln]), ?_⟩
    have n2 : l2 ≠ q := ne_of hl2 hq4 (by intro z; cases z)
    refine ⟨_, rfl, ?_⟩
    have s5 : Same H (upd H4 q (.lst (((us.map V.ref).set p.1 (.ref l1)).set p.2 (.ref l2)))) := Same.upd_new (s3.trans s4) hq
    refine k q ((us.set p.1 l1).set p.2 l2) _ hq (by rw [upd_same, List.map_set, List.map_set]) ?_ s5
    unfold behindP
    rw [getD_of ex, getD_of ez]
    refine CutsAt.set (CutsAt.set (hC.same s5) ?_) ?_
    · rw [L2.upd_ne n1]; exact s4 _ _ hl3
    · rw [L2.upd_ne n2]; exact hl2
end
end K34

set_option Elab.async false
set_option linter.all false
set_option maxRecDepth 100000
set_option maxHeartbeats 4000000
namespace L2
open PySem PySem.Spec PyProof.Rows
section
variable {X : Cx} {a b c d : Expr} {ta tb tc td : TE} {pos : Pos}
theorem pt_chain3 {op op' op'' : CmpOp} {r r' r'' : R2} (ho : OpR X (compareOp op) r) (ho' : OpR X (compareOp op') r') (ho'' : OpR X (compareOp op'') r'') (ha : PE X a ta) (hb : PE X b tb) (hc : PE X c tc) (hd : PE X d td)
    (hm : lastMarks [op, op', op''] [b, c, d] = false := by with_unfolding_all rfl) : PT X (.Compare a [op, op', op''] [b, c, d] pos) (tTest (tChain3 r r' r'' ta tb tc td)) := by
  intro pins s σ H Q I h
  refine isTrue_chain (thn (ha pins s σ H _ I h) fun v s1 ⟨x, H1, I1, r1, q1⟩ => test_link (thn (hb pins s1 σ H1 _ I1 q1) fun u s2 ⟨y, H2, I2, r2, q2⟩ =>
    thn (ho pins s2 σ H2 x y v u _ I2 r1 r2 q2) fun d1 s3 ⟨z, H3, I3, r3, k, e, q3⟩ => ?_)) hm
  subst e
  cases r3
  refine wpAny_truthy_bool ?_
  cases k with
  | false =>
    obtain ⟨k', e', q'⟩ := q3
    cases e'
    exact ite_ff ⟨H3, I3, q'⟩
  | true =>
    refine ite_tt (test_link (thn (hc pins s3 σ H3 _ I3 q3) fun w' s4 ⟨z', H4, I4, r4, q4⟩ => thn (ho' pins s4 σ H4 y z' u w' _ I4 r2 r4 q4) fun d2 s5 ⟨z2, H5, I5, r5, k2, e2, q5⟩ => ?_))
    subst e2
    cases r5
    refine wpAny_truthy_bool ?_
    cases k2 with
    | false =>
      obtain ⟨k', e', q'⟩ := q5
      cases e'
      exact ite_ff ⟨H5, I5, q'⟩
    | true =>
      refine ite_tt (test_last (thn (hd pins s5 σ H5 _ I5 q5) fun v' s6 ⟨z3, H6, I6, r6, q6⟩ => thn (ho'' pins s6 σ H6 z' z3 w' v' _ I6 r4 r6 q6) fun d' s7 ⟨z4, H7, I7, r7, k4, e4, q7⟩ => ?_))
      subst e4
      cases r7
      exact wpAny_truthy_bool ⟨H7, I7, q7⟩
end
section
variable {X : Cx}
end
end L2

set_option Elab.async false
set_option linter.all false
set_option maxRecDepth 100000
set_option maxHeartbeats 4000000
namespace L2
open PySem PySem.Spec PyProof.Rows
theorem pi_listK {X : Cx} {K : PySem.W.Frag} {tg l : Expr} {tl : TE} (hK : X.K = K) (hl : PE X l tl) : PI X tg l (iList K tl) := by
  subst hK
  exact pi_list hl
end L2
namespace K34
open PySem PySem.Spec PyProof.Rows L2
def inRow (p : Str × Str) (zs : List Str) : Bool := !decide (p.1 ∈ zs) && decide (p.2 ∈ zs)
def ent (ps : List (Str × Str)) (zss : List (List Str)) : List Nat := ps.map fun p => zss.countP (inRow p)
abbrev ivs (ns : List Nat) : List V := ns.map fun (n : Nat) => V.int n
abbrev sLEnt : Stmt := top 42 -- _law_entered
section
variable {P : Program} {w : World} {K : PySem.W.Frag} {mg : Str → Option Value} {base : Heap}
abbrev rLen (K : PySem.W.Frag) : List V → Hp → VK → Prop := fun xs H Q => ∃ (p : Addr) (ys : List V), xs = [V.ref p] ∧ (SqL K H p ys ∨ SqT K H p ys) ∧ Q (V.int ys.length) H
def spLEnt : Sp := fun vs H Q _ => ∃ (b l : Addr) (ts : List Addr) (ps : List (Str × Str)) (us : List Addr) (zss : List (List Str)), vs = [.ref b, .ref l] ∧ H b = some (.lst (ts.map V.ref)) ∧ TiesAt H ts ps ∧ ps.length ≤ 30 ∧ H l = some (.lst (us.map V.ref)) ∧ CutsAt H us zss ∧ us.length ≤ 1000 ∧
  ∀ q H', H q = none → H' q = some (.lst (ivs (ent ps zss))) → Same H H' → Q (.ref q) H'
abbrev nLE : List Str := ["_law_ties", "_law_family_here"]
theorem scLE : FnScope nLE nLE (defScope sLEnt) := ⟨rfl, rfl, rfl, by decide +kernel, rfl, by decide +kernel, by decide +kernel⟩
theorem ok_lent {f : Addr} {fd : FuncData} (F : Fun K "_law_entered" "_law_entered" sLEnt f fd) (T : Glb mg) : FnOk P w K mg base CX0 1 f fd nLE spLEnt := by
  refine F.ok scLE (fun vs H Q E h => ?_) (fun cdv A outer s H vs Q E hr h => ?_)
  · obtain ⟨b, l, ts, ps, us, zss, rfl, _⟩ := h
    rfl
  · obtain ⟨b, l, ts, ps, us, zss, rfl, hb, hT, pf, hl, hC, lu, k⟩ := h
    refine ⟨_, pss_one (ps_ret (pe_lc ["_law_a", "_law_b"] [1] rfl (compSc (osc := (defScope sLEnt).names) (N := nLE) rfl rfl (by decide +kernel)) (gk_two (K := K) (k := 2) (by decide) (by decide)) (pi_list (pv 0))
      (fun _ _ _ => pg_tup rfl (pgs_cons (pg_name (i := 0) (show (["_law_a", "_law_b", "_law_family_here"] : List Str).Nodup by decide +kernel) rfl (Or.inr rfl)) (pgs_cons (pg_name (i := 1) (show (["_law_a", "_law_b", "_law_family_here"] : List Str).Nodup by decide +kernel) rfl (Or.inr rfl)) pgs_nil)))
      (fun _ _ _ => pifs_nil)
      (fun _ _ _ => pe_callB (r := rLen K) call_len_seq (by rfl) T.len PySem.boot_len (pa_cons
        (pe_lc ["_law_cut_here"] [0, 1] rfl (compSc (osc := [(".0", .local), ("_law_a", .cell), ("_law_b", .cell), ("len", .globalImplicit), ("_law_family_here", .cell)]) (N := ["_law_a", "_law_b", "_law_family_here"]) rfl rfl (by decide +kernel)) (gk_name (by decide)) (pi_listK (K := K) rfl (pv 2))
          (fun _ _ _ => pg_name (i := 0) (show (["_law_cut_here", "_law_a", "_law_b"] : List Str).Nodup by decide +kernel) rfl (Or.inl rfl))
          (fun _ _ _ => pifs_one (PW.pt (pw_and (pt_cmpR (r := rIn K true) op_notIn_seq (pv 1) (pv 0) rfl) (pw_and1 (pt_cmpR (r := rIn K false) op_in_seq (pv 2) (pv 0) rfl)))))
          (fun _ _ _ => pv 0)) pa_nil)))), ?_⟩
    refine ⟨_, rfl, b, rfl, ⟨_, SqL.of hb⟩, ?_⟩
    have lt : (ts.map V.ref).length = ps.length := by rw [List.length_map, hT.len]
    refine lc_list (K := K) (xs := ts.map V.ref) (fun i ys H2 => Same H H2 ∧ ys = ivs ((ps.take i).map fun p => zss.countP (inRow p))) ⟨Same.refl _, rfl⟩ ?_ ?_ ?_ ?_
    · rintro i ys H2 hi ⟨_, rfl⟩
      rw [List.length_map, List.length_map, List.length_take]
      exact Nat.le_trans (Nat.min_le_right _ _) (Nat.le_trans pf (by decide))
    · rintro i ys H2 _ ⟨s2, _⟩
      exact SqL.of (s2 _ _ hb)
    · rintro i v ys H2 R hv ⟨s2, rfl⟩ kR
      rw [List.getElem?_map] at hv
      obtain ⟨t, et, rfl⟩ := Option.map_eq_some_iff.mp hv
      obtain ⟨p, ep, ht⟩ := hT.get et
      have fin : ivs ((ps.take (i + 1)).map fun p => zss.countP (inRow p)) = ivs ((ps.take i).map fun p => zss.countP (inRow p)) ++ [V.int (zss.countP (inRow p) : Nat)] := by
        rw [List.take_add_one, ep]; simp [ivs]
      refine ⟨t, _, rfl, SqT.of (s2 _ _ ht), rfl, _, _, rfl, _, _, rfl, rfl, ?_⟩
      simp only [tYes, if_true]
      have hC2 := hC.same s2
      refine ⟨_, rfl, l, rfl, ⟨_, SqL.of (s2 _ _ hl)⟩, ?_⟩
      refine lc_list (K := K) (xs := us.map V.ref) (fun j vs H3 => Same H2 H3 ∧ vs.length = (zss.take j).countP (inRow p)) ⟨Same.refl _, rfl⟩ ?_ ?_ ?_ ?_
      · rintro j vs H3 hj ⟨_, e⟩
        rw [e]
        exact Nat.le_trans List.countP_le_length (Nat.le_trans (by rw [List.length_take, ← hC.len]; exact Nat.min_le_right _ _) (Nat.le_of_lt (small1000 lu)))
      · rintro j vs H3 _ ⟨s3, _⟩
        exact SqL.of (s3 _ _ (s2 _ _ hl))
      · rintro j v vs H3 R2 hv ⟨s3, e⟩ kR2
        rw [List.getElem?_map] at hv
        obtain ⟨u, eu, rfl⟩ := Option.map_eq_some_iff.mp hv
        obtain ⟨zs, ez, hu⟩ := (hC2.same s3).get eu
        have fin2 : (zss.take (j + 1)).countP (inRow p) = (zss.take j).countP (inRow p) + (if inRow p zs = true then 1 else 0) := by
          rw [List.take_add_one, ez, List.countP_append]
          congr 1
          rw [Option.toList_some, List.countP_cons, List.countP_nil, Nat.zero_add]
        refine ⟨_, rfl, _, rfl, u, _, rfl, .inr (SqT.of hu), rfl, flat_strs zs, _, rfl, ?_⟩
        simp only [if_true]
        rw [inV_str]
        by_cases h1 : p.1 ∈ zs
        · rw [decide_eq_true h1]
          refine iteF (kR2 _ _ ⟨s3, by rw [fin2, e, if_neg (by simp [inRow, h1]), Nat.add_zero]⟩)
        · rw [decide_eq_false h1]
          refine iteT ⟨_, rfl, _, rfl, u, _, rfl, .inr (SqT.of hu), rfl, flat_strs zs, _, rfl, ?_⟩
          simp only [Bool.false_eq_true, if_false]
          rw [inV_str]
          by_cases h2 : p.2 ∈ zs
          · rw [decide_eq_true h2]
            refine iteT ⟨_, rfl, kR2 _ _ ⟨s3, ?_⟩⟩
            rw [fin2, if_pos (by simp [inRow, h1, h2]), List.length_append, e]; rfl
          · rw [decide_eq_false h2]
            exact iteF (kR2 _ _ ⟨s3, by rw [fin2, e, if_neg (by simp [inRow, h2]), Nat.add_zero]⟩)
      · rintro vs H3 ⟨s3, e⟩ D0 hD0
        rw [List.length_map, hC.len, List.take_of_length_le (Nat.le_refl _)] at e
        refine ⟨D0, vs, rfl, .inl (SqL.of upd_same), ?_⟩
        rw [e]
        exact kR _ _ ⟨s2.trans (s3.trans (same_upd hD0)), fin.symm⟩
    · rintro ys H2 ⟨s2, rfl⟩ D0 hD0
      rw [lt, List.take_of_length_le (Nat.le_refl _)]
      exact k D0 _ (s2.free hD0) upd_same (s2.trans (same_upd hD0))
end
end K34
namespace K34
open PySem PySem.Spec PyProof.Rows L2
/-! ### what two closed sets have is closed, and so is what one has -/
theorem closed_all {ps : List (Str × Str)} {zs : List Str} : closed ps zs = true ↔ ∀ p ∈ ps, p.1 ∈ zs → p.2 ∈ zs := by
  unfold closed
  rw [Bool.not_eq_true', List.any_eq_false]
  constructor
  · intro h p hp h1
    have := h p hp
    by_cases q : p.2 ∈ zs
    · exact q
    · simp [h1, q] at this
  · intro h p hp
    by_cases h1 : p.1 ∈ zs
    · simp [h p hp h1]
    · simp [h1]
theorem mem_both {ns xs ys : List Str} {z : Str} : z ∈ both ns xs ys ↔ z ∈ ns ∧ z ∈ xs ∧ z ∈ ys := by simp [both]
theorem mem_either {ns xs ys : List Str} {z : Str} : z ∈ either ns xs ys ↔ z ∈ ns ∧ (z ∈ xs ∨ z ∈ ys) := by simp [either]
theorem rise_filter {ns : List Str} (h : srt ns = ns) (f : Str → Bool) : srt (ns.filter f) = ns.filter f :=
  (srt_of (.refl _) ((h ▸ srt_pw ns).sublist List.filter_sublist)).symm
theorem both_is {ns xs ys : List Str} {ps : List (Str × Str)} (g : GoodW ns ps) (r : srt ns = ns) (hx : IsC ns ps xs) (hy : IsC ns ps ys) (c : crossP ns xs ys = true) : IsC ns ps (both ns xs ys) := by
  unfold crossP at c
  simp only [Bool.and_eq_true, decide_eq_true_eq] at c
  refine ⟨⟨rise_filter r _, g.good.nd.filter _, fun z hz => (mem_both.mp hz).1, fun e => ?_, closed_all.mpr fun p hp h => ?_⟩, ?_⟩
  · rw [e] at c; exact absurd c.1.1 (by decide)
  · obtain ⟨h1, h2, h3⟩ := mem_both.mp h
    exact mem_both.mpr ⟨(g.ins p hp).2, closed_all.mp hx.shut.shut p hp h2, closed_all.mp hy.shut.shut p hp h3⟩
  · have := hx.less
    have := c.1.2
    omega
theorem either_is {ns xs ys : List Str} {ps : List (Str × Str)} (g : GoodW ns ps) (r : srt ns = ns) (hx : IsC ns ps xs) (hy : IsC ns ps ys) (c : crossP ns xs ys = true) : IsC ns ps (either ns xs ys) := by
  unfold crossP at c
  simp only [Bool.and_eq_true, decide_eq_true_eq] at c
  refine ⟨⟨rise_filter r _, g.good.nd.filter _, fun z hz => (mem_either.mp hz).1, fun e => ?_, closed_all.mpr fun p hp h => ?_⟩, c.2⟩
  · obtain ⟨z, hz⟩ := List.exists_mem_of_ne_nil _ hx.shut.some
    have : z ∈ either ns xs ys := mem_either.mpr ⟨hx.shut.ins z hz, .inl hz⟩
    rw [e] at this
    exact nomatch this
  · obtain ⟨h1, h2⟩ := mem_either.mp h
    exact mem_either.mpr ⟨(g.ins p hp).2, h2.imp (closed_all.mp hx.shut.shut p hp) (closed_all.mp hy.shut.shut p hp)⟩
theorem ent_two {ns xs ys : List Str} {ps : List (Str × Str)} (g : GoodW ns ps) (hx : IsC ns ps xs) (hy : IsC ns ps ys) : ent ps [both ns xs ys, either ns xs ys] = ent ps [xs, ys] := by
  unfold ent
  refine List.map_congr_left fun p hp => ?_
  have i := g.ins p hp
  have cx := closed_all.mp hx.shut.shut p hp
  have cy := closed_all.mp hy.shut.shut p hp
  simp only [List.countP_cons, List.countP_nil, inRow, mem_both, mem_either, i.1, i.2, true_and]
  by_cases a : p.1 ∈ xs <;> by_cases b : p.2 ∈ xs <;> by_cases c : p.1 ∈ ys <;> by_cases d : p.2 ∈ ys <;> simp [a, b, c, d] <;> first | exact absurd (cx a) b | exact absurd (cy c) d | skip
theorem lo_iff {c : Nat} : lo c = true ↔ 97 ≤ c := by
  unfold lo
  rw [Bool.not_eq_true', decide_eq_false_iff_not]
  show ¬ [c] < ("a" : Str).cps.toList ↔ _
  have e : ("a" : Str).cps.toList = [97] := by decide +kernel
  rw [e]
  constructor
  · intro h
    rcases Nat.lt_or_ge c 97 with q | q
    · exact absurd (List.Lex.rel q) h
    · exact q
  · intro h q
    cases q with
    | rel z => omega
    | cons z => cases z
theorem hi_iff {c : Nat} : hi c = true ↔ c ≤ 122 := by
  unfold hi
  rw [Bool.not_eq_true', decide_eq_false_iff_not]
  show ¬ ("z" : Str).cps.toList < [c] ↔ _
  have e : ("z" : Str).cps.toList = [122] := by decide +kernel
  rw [e]
  constructor
  · intro h
    rcases Nat.lt_or_ge 122 c with q | q
    · exact absurd (List.Lex.rel q) h
    · exact q
  · intro h q
    cases q with
    | rel z => omega
    | cons z => cases z
theorem nm_all {z : Str} (h : nm z = true) {c : Nat} (hc : c ∈ z.cps.toList) : 97 ≤ c ∧ c ≤ 122 := by
  unfold nm at h
  simp only [Bool.and_eq_true, List.all_map, List.all_eq_true] at h
  have := h.2 c hc
  simp only [Function.comp, id, Bool.and_eq_true] at this
  exact ⟨lo_iff.mp this.1, hi_iff.mp this.2⟩
theorem repr_nm {z : Str} (h : nm z = true) : (reprText z).length ≤ 100 := by
  have a := PySem.StrLaws.reprText_len z fun c hc => Nat.lt_of_le_of_lt (nm_all h hc).2 (by decide)
  have b := nm_len h
  omega

/-! ### sums over a family with one cut put for another -/
theorem sum_set (f : List Str → Nat) : ∀ {l : List (List Str)} {i : Nat} {x a : List Str}, l[i]? = some x → ((l.set i a).map f).sum + f x = (l.map f).sum + f a
  | y :: l, 0, x, a, h => by cases h; simp; omega
  | y :: l, i + 1, x, a, h => by
    have := sum_set f (l := l) (i := i) (a := a) (by simpa using h)
    simp only [List.set_cons_succ, List.map_cons, List.sum_cons]
    omega
theorem two_set (f : List Str → Nat) {l : List (List Str)} {i j : Nat} {x y a b : List Str} (ij : i ≠ j) (hi : l[i]? = some x) (hj : l[j]? = some y) : (((l.set i a).set j b).map f).sum + f x + f y = (l.map f).sum + f a + f b := by
  have e1 := sum_set f (a := a) hi
  have e2 := sum_set f (l := l.set i a) (i := j) (x := y) (a := b) (by rw [List.getElem?_set_ne ij]; exact hj)
  omega
theorem cnt_sum (f : List Str → Bool) : ∀ l : List (List Str), l.countP f = (l.map fun x => if f x = true then 1 else 0).sum
  | [] => rfl
  | x :: l => by rw [List.countP_cons, List.map_cons, List.sum_cons, cnt_sum f l]; omega
def sqs (zss : List (List Str)) : Nat := (zss.map fun zs => zs.length * zs.length).sum
section
variable {ns : List Str} {ps : List (Str × Str)} {zss : List (List Str)} {p : Nat × Nat} {xs ys : List Str}
theorem behind_ent (g : GoodW ns ps) (lt : p.1 < p.2) (hx : zss[p.1]? = some xs) (hy : zss[p.2]? = some ys) (cx : IsC ns ps xs) (cy : IsC ns ps ys) : ent ps (behindP ns zss p) = ent ps zss := by
  have e := ent_two g cx cy
  unfold behindP
  rw [getD_of hx, getD_of hy]
  unfold ent at e ⊢
  refine List.map_congr_left fun q hq => ?_
  have e1 : [both ns xs ys, either ns xs ys].countP (inRow q) = [xs, ys].countP (inRow q) := by
    obtain ⟨i, hi, rfl⟩ := List.getElem_of_mem hq
    have h1 := congrArg (fun l => l[i]?) e
    simpa [hi] using h1
  rw [cnt_sum, cnt_sum] at e1 ⊢
  have e2 := two_set (fun x => if inRow q x = true then 1 else 0) (a := both ns xs ys) (b := either ns xs ys) (Nat.ne_of_lt lt) hx hy
  simp only [List.map_cons, List.map_nil, List.sum_cons, List.sum_nil] at e1
  omega
theorem sq_more (a b c : Nat) (hb : 0 < b) (hc : 0 < c) : (a + b) * (a + b) + (a + c) * (a + c) < a * a + (a + b + c) * (a + b + c) := by
  have e : a * a + (a + b + c) * (a + b + c) = (a + b) * (a + b) + (a + c) * (a + c) + 2 * (b * c) := by
    simp only [Nat.mul_add, Nat.add_mul]
    have h1 := Nat.mul_comm b a
    have h2 := Nat.mul_comm c a
    have h3 := Nat.mul_comm c b
    omega
  have := Nat.mul_pos hb hc
  omega
theorem behind_sq (nn : ns.Nodup) (lt : p.1 < p.2) (hx : zss[p.1]? = some xs) (hy : zss[p.2]? = some ys) (cx : IsC ns ps xs) (cy : IsC ns ps ys) (c : crossP ns xs ys = true) : sqs zss < sqs (behindP ns zss p) := by
  have b1 := both_len (ys := ys) nn cx.shut.nd cx.shut.ins
  have b2 := both_len (ys := xs) nn cy.shut.nd cy.shut.ins
  rw [both_comm] at b2
  have b3 := either_len nn cx.shut.nd cy.shut.nd cx.shut.ins cy.shut.ins
  unfold crossP at c
  simp only [Bool.and_eq_true, decide_eq_true_eq] at c
  have e2 := two_set (fun x => x.length * x.length) (a := both ns xs ys) (b := either ns xs ys) (Nat.ne_of_lt lt) hx hy
  unfold behindP sqs
  rw [getD_of hx, getD_of hy]
  have m := sq_more (both ns xs ys).length (alone xs ys).length (alone ys xs).length (by omega) (by omega)
  have f1 : xs.length = (both ns xs ys).length + (alone xs ys).length := b1.symm
  have f2 : ys.length = (both ns xs ys).length + (alone ys xs).length := b2.symm
  have f3 : (either ns xs ys).length = (both ns xs ys).length + (alone xs ys).length + (alone ys xs).length := by rw [b3, f1]
  rw [← f1, ← f2, ← b3] at m
  have e2' : (((zss.set p.1 (both ns xs ys)).set p.2 (either ns xs ys)).map fun x => x.length * x.length).sum + xs.length * xs.length + ys.length * ys.length = (zss.map fun x => x.length * x.length).sum + (both ns xs ys).length * (both ns xs ys).length + (either ns xs ys).length * (either ns xs ys).length := e2
  omega
theorem behind_all (g : GoodW ns ps) (r : srt ns = ns) (all : ∀ zs ∈ zss, IsC ns ps zs) (hx : zss[p.1]? = some xs) (hy : zss[p.2]? = some ys) (c : crossP ns xs ys = true) : ∀ zs ∈ behindP ns zss p, IsC ns ps zs := fun zs hz => by
  have cx := all xs (List.mem_of_getElem? hx)
  have cy := all ys (List.mem_of_getElem? hy)
  unfold behindP at hz
  rw [getD_of hx, getD_of hy] at hz
  rcases List.mem_or_eq_of_mem_set hz with h1 | rfl
  · rcases List.mem_or_eq_of_mem_set h1 with h2 | rfl
    · exact all zs h2
    · exact both_is g r cx cy c
  · exact either_is g r cx cy c
end
theorem sqs_le {m : Nat} : ∀ {zss : List (List Str)}, (∀ zs ∈ zss, zs.length < m) → sqs zss ≤ zss.length * (m * m)
  | [], _ => by simp [sqs]
  | z :: zss, h => by
    have a := sqs_le fun y hy => h y (List.mem_cons_of_mem _ hy)
    have b := h z List.mem_cons_self
    have c : z.length * z.length ≤ m * m := Nat.mul_le_mul (by omega) (by omega)
    unfold sqs at a ⊢
    rw [List.map_cons, List.sum_cons, List.length_cons, Nat.succ_mul]
    omega
end K34

set_option Elab.async false
set_option linter.all false
set_option maxRecDepth 100000
set_option maxHeartbeats 4000000
namespace K34
open PySem PySem.Spec PyProof.Rows L2
abbrev sAnyX : Stmt := top 43 -- _law_any_cross
theorem prsT_of {n i j : Nat} (h : i < j) (hj : j < n) : (i, j) ∈ prsT n n := by
  refine List.mem_flatMap.mpr ⟨i, List.mem_range.mpr (by omega), List.mem_map.mpr ⟨j - (i + 1), List.mem_range.mpr (by omega), ?_⟩⟩
  rw [show i + 1 + (j - (i + 1)) = j by omega]
theorem no_cross {ns : List Str} {ps : List (Str × Str)} {zss : List (List Str)} (nn : ns.Nodup) (all : ∀ zs ∈ zss, IsC ns ps zs) (h : stepsP ns zss = []) : ∀ xs ∈ zss, ∀ ys ∈ zss, crossL ns xs ys = false := by
  have lt : ∀ {i j : Nat} (hj : j < zss.length) (hi : i < j), crossP ns (zss[i]'(by omega)) zss[j] = false := fun {i j} hj hi => by
    have m := prsT_of hi hj
    have c : crs ns zss (i, j) = false := by
      cases e : crs ns zss (i, j) with
      | false => rfl
      | true =>
        have : (i, j) ∈ stepsP ns zss := List.mem_filter.mpr ⟨m, e⟩
        rw [h] at this
        exact nomatch this
    unfold crs at c
    have e1 : zss.getD i [] = zss[i]'(by omega) := by have : i < zss.length := by omega
                                                      simp [List.getD_eq_getElem?_getD, this]
    have e2 : zss.getD j [] = zss[j] := by simp [List.getD_eq_getElem?_getD, hj]
    rw [show ((i, j) : Nat × Nat).1 = i from rfl, show ((i, j) : Nat × Nat).2 = j from rfl, e1, e2] at c
    exact c
  intro xs hx ys hy
  have ix := all xs hx
  have iy := all ys hy
  obtain ⟨i, hi, rfl⟩ := List.getElem_of_mem hx
  obtain ⟨j, hj, rfl⟩ := List.getElem_of_mem hy
  rw [cross_eq nn ix.shut.nd iy.shut.nd ix.shut.ins iy.shut.ins]
  rcases Nat.lt_trichotomy i j with q | q | q
  · exact lt hj q
  · subst q
    rw [← cross_eq nn ix.shut.nd ix.shut.nd ix.shut.ins ix.shut.ins]
    have e : alone zss[i] zss[i] = [] := by
      unfold alone
      exact List.filter_eq_nil_iff.mpr fun z hz => by simp [hz]
    unfold crossL
    rw [e]
    simp
  · rw [crossP_comm]; exact lt hi q
section
variable {P : Program} {w : World} {K : PySem.W.Frag} {mg : Str → Option Value} {base : Heap} {fX : Addr} {fdX : FuncData}
/-! ### whether any two cross -/
def spAnyX : Sp := fun vs H Q _ => ∃ (a l : Addr) (ns : List Str) (us : List Addr) (zss : List (List Str)), vs = [.ref a, .ref l] ∧ H a = some (.lst (ns.map V.str)) ∧ H l = some (.lst (us.map V.ref)) ∧ CutsAt H us zss ∧ us.length ≤ 100 ∧ (∀ zs ∈ zss, zs.length ≤ 12) ∧ (∀ xs ∈ zss, ∀ ys ∈ zss, crossL ns xs ys = false) ∧
  ∀ H', Same H H' → Q (.bl false) H'
abbrev nAx : List Str := ["_law_names_here", "_law_family_here", "_law_one"]
theorem scAx : FnScope nAx ["_law_names_here", "_law_family_here"] (defScope sAnyX) := ⟨rfl, rfl, rfl, by decide +kernel, rfl, by decide +kernel, by decide +kernel⟩
theorem ok_anyX {f : Addr} {fd : FuncData} (F : Fun K "_law_any_cross" "_law_any_cross" sAnyX f fd) (DX : Df K mg "_law_cross" sCross ["_law_names_here", "_law_one", "_law_other"] fX fdX) (T : Glb mg) (ha : mg "any" = none) : FnOk P w K mg base CX0 2 f fd ["_law_names_here", "_law_family_here"] spAnyX := by
  have GX : FnOk P w K mg base CX0 1 fX fdX ["_law_names_here", "_law_one", "_law_other"] spLCross := ok_lcross DX.fn T
  refine F.ok scAx (fun vs H Q E h => ?_) (fun cdv A outer s H vs Q E hr h => ?_)
  · obtain ⟨a, l, ns, us, zss, rfl, _⟩ := h
    rfl
  · obtain ⟨a, l, ns, us, zss, rfl, hn, hl, hC, lu, l12, no, k⟩ := h
    refine ⟨_, pss_cons (ps_for PassesOwn.never rfl (pi_list (pv 1)) (pg_name (i := 2) scAx.nd rfl (Or.inr rfl))
        (pss_one (ps_if (pt_val (pe_callB (call_any rfl) (by rfl) ha PyProof.Rows.boot_any (pa_cons (pe_lc ["_law_other"] [0, 2] rfl (compSc (osc := (defScope sAnyX).names) (N := nAx) rfl rfl (by decide +kernel)) (gk_name (by decide)) (pi_list (pv 1))
          (fun _ _ _ => pg_name (i := 0) (show (["_law_other", "_law_names_here", "_law_one"] : List Str).Nodup by decide +kernel) rfl (Or.inl rfl)) (fun _ _ _ => pifs_nil)
          (fun _ _ _ => pe_call GX hr rfl DX.mgf DX.fn.kp DX.b .nil pass0 (pa_cons (pv 1) (pa_cons (pv 2) (pa_cons (pv 0) pa_nil))))) pa_nil)) (fun _ => rfl)) (pss_one (ps_ret pe_bl)) pss_nil)))
      (pss_one (ps_ret pe_bl)), ?_⟩
    have lz : us.length = zss.length := hC.len
    refine ⟨_, rfl, l, rfl, ⟨_, SqL.of hl⟩, ?_⟩
    refine for_list (K := K) (xs := us.map V.ref) (fun _ σ H1 => (∃ v2, σ = [some (.ref a), some (.ref l), v2]) ∧ Same H H1) ⟨⟨_, rfl⟩, Same.refl _⟩ ?_ ?_ ?_
    · rintro j σ H1 _ ⟨_, s1⟩
      exact SqL.of (s1 _ _ hl)
    · rintro j y σ H1 hy ⟨⟨v2, rfl⟩, s1⟩
      rw [List.getElem?_map] at hy
      obtain ⟨u, eu, rfl⟩ := Option.map_eq_some_iff.mp hy
      obtain ⟨xs, ex, hu⟩ := hC.get eu
      have mx := List.mem_of_getElem? ex
      refine ⟨_, rfl, l, rfl, ⟨_, SqL.of (s1 _ _ hl)⟩, ?_⟩
      refine lc_list (K := K) (xs := us.map V.ref) (fun i ys H2 => Same H1 H2 ∧ ys = (List.replicate i false).map V.bl) ⟨Same.refl _, rfl⟩ ?_ ?_ ?_ ?_
      · rintro i ys H2 hi ⟨_, rfl⟩
        rw [List.length_map] at hi
        rw [List.length_map, List.length_replicate]
        exact Nat.le_trans hi (Nat.le_trans lu (by decide))
      · rintro i ys H2 _ ⟨s2, _⟩
        exact SqL.of (s2 _ _ (s1 _ _ hl))
      · rintro i v ys H2 R hv ⟨s2, rfl⟩ kR
        rw [List.getElem?_map] at hv
        obtain ⟨t, et, rfl⟩ := Option.map_eq_some_iff.mp hv
        have s12 := s1.trans s2
        obtain ⟨zs, ez, ht⟩ := (hC.same s12).get et
        have mz := List.mem_of_getElem? ez
        simp only [tYes, gName, if_true]
        refine ⟨_, rfl, _, rfl, _, rfl, a, u, t, ns, xs, zs, rfl, s12 _ _ hn, s12 _ _ hu, ht, l12 _ mx, l12 _ mz, fun H3 s3 => ?_⟩
        rw [no xs mx zs mz]
        exact kR _ _ ⟨s2.trans s3, by rw [List.replicate_succ']; simp⟩
      · rintro ys H2 ⟨s2, rfl⟩ D0 hD0
        refine ⟨D0, List.replicate (us.map V.ref).length false, rfl, SqL.of upd_same, _, rfl, ?_⟩
        have e : (List.replicate (us.map V.ref).length false).any id = false := by simp
        rw [e]
        exact iteF ⟨⟨_, rfl⟩, s1.trans (s2.trans (same_upd hD0))⟩
    · rintro σ H1 ⟨⟨v2, rfl⟩, s1⟩
      exact k _ s1
end
end K34

set_option Elab.async false
set_option linter.all false
set_option maxRecDepth 100000
set_option maxHeartbeats 4000000
namespace K34
open PySem PySem.Spec PyProof.Rows L2
/-! ### steps that lead, sweeps, and what comes of them -/
section
variable {ns : List Str}
def leads (ns : List Str) : List (List Str) → List (Nat × Nat) → Option (List (List Str))
  | z, [] => some z
  | z, p :: r => if p.1 < p.2 ∧ p.2 < z.length ∧ crs ns z p = true then leads ns (behindP ns z p) r else none
theorem leads_cons {z : List (List Str)} {p : Nat × Nat} {r : List (Nat × Nat)} {z' : List (List Str)} (h : leads ns z (p :: r) = some z') : (p.1 < p.2 ∧ p.2 < z.length ∧ crs ns z p = true) ∧ leads ns (behindP ns z p) r = some z' := by
  rw [leads] at h
  by_cases c : p.1 < p.2 ∧ p.2 < z.length ∧ crs ns z p = true
  · rw [if_pos c] at h; exact ⟨c, h⟩
  · rw [if_neg c] at h; cases h
theorem leads_append : ∀ {a b : List (Nat × Nat)} {z z1 : List (List Str)}, leads ns z a = some z1 → leads ns z (a ++ b) = leads ns z1 b
  | [], b, z, z1, h => by cases h; rfl
  | p :: a, b, z, z1, h => by
    obtain ⟨c, h'⟩ := leads_cons h
    rw [List.cons_append, leads, if_pos c]
    exact leads_append h'
def swp (ns : List Str) : List (Nat × Nat) → List (List Str) → List (List Str) × List (Nat × Nat)
  | [], z => (z, [])
  | p :: L, z => if crs ns z p = true then ((swp ns L (behindP ns z p)).1, p :: (swp ns L (behindP ns z p)).2) else swp ns L z
theorem swp_pos {p : Nat × Nat} {L : List (Nat × Nat)} {z : List (List Str)} (h : crs ns z p = true) : swp ns (p :: L) z = ((swp ns L (behindP ns z p)).1, p :: (swp ns L (behindP ns z p)).2) := by rw [swp, if_pos h]
theorem swp_neg {p : Nat × Nat} {L : List (Nat × Nat)} {z : List (List Str)} (h : ¬ crs ns z p = true) : swp ns (p :: L) z = swp ns L z := by rw [swp, if_neg h]
theorem swp_leads : ∀ {L : List (Nat × Nat)} {z : List (List Str)}, (∀ p ∈ L, p.1 < p.2 ∧ p.2 < z.length) → leads ns z (swp ns L z).2 = some (swp ns L z).1
  | [], z, _ => rfl
  | p :: L, z, h => by
    by_cases c : crs ns z p = true
    · rw [swp_pos c]
      have hp := h p List.mem_cons_self
      show leads ns z (p :: (swp ns L (behindP ns z p)).2) = some (swp ns L (behindP ns z p)).1
      rw [leads, if_pos ⟨hp.1, hp.2, c⟩]
      exact swp_leads fun q hq => by rw [behindP_len]; exact h q (List.mem_cons_of_mem _ hq)
    · rw [swp_neg c]
      exact swp_leads fun q hq => h q (List.mem_cons_of_mem _ hq)
theorem swp_none : ∀ {L : List (Nat × Nat)} {z : List (List Str)}, (swp ns L z).2 = [] → (swp ns L z).1 = z ∧ ∀ p ∈ L, crs ns z p = false
  | [], z, _ => ⟨rfl, fun _ h => nomatch h⟩
  | p :: L, z, h => by
    by_cases c : crs ns z p = true
    · rw [swp_pos c] at h; cases h
    · rw [swp_neg c] at h ⊢
      obtain ⟨a, b⟩ := swp_none h
      exact ⟨a, fun q hq => (List.mem_cons.mp hq).elim (fun e => by rw [e]; simpa using c) (b q)⟩
theorem swp_skip : ∀ {L : List (Nat × Nat)} {z : List (List Str)}, (∀ p ∈ L, crs ns z p = false) → swp ns L z = (z, [])
  | [], z, _ => rfl
  | p :: L, z, h => by rw [swp_neg (by rw [h p List.mem_cons_self]; decide)]; exact swp_skip fun q hq => h q (List.mem_cons_of_mem _ hq)
theorem leads_keeps {ps : List (Str × Str)} (g : GoodW ns ps) (r : srt ns = ns) : ∀ {s : List (Nat × Nat)} {z z' : List (List Str)}, leads ns z s = some z' → (∀ zs ∈ z, IsC ns ps zs) →
    (∀ zs ∈ z', IsC ns ps zs) ∧ z'.length = z.length ∧ ent ps z' = ent ps z ∧ sqs z + s.length ≤ sqs z'
  | [], z, z', h, all => by cases h; exact ⟨all, rfl, rfl, Nat.le_refl _⟩
  | p :: s, z, z', h, all => by
    obtain ⟨⟨lt, ln, c⟩, h'⟩ := leads_cons h
    have e1 : z[p.1]? = some (z[p.1]'(by omega)) := List.getElem?_eq_getElem _
    have e2 : z[p.2]? = some z[p.2] := List.getElem?_eq_getElem _
    have cr : crossP ns (z[p.1]'(by omega)) z[p.2] = true := by unfold crs at c; rw [getD_of e1, getD_of e2] at c; exact c
    have i1 := all _ (List.mem_of_getElem? e1)
    have i2 := all _ (List.mem_of_getElem? e2)
    obtain ⟨a1, a2, a3, a4⟩ := leads_keeps g r h' (behind_all g r all e1 e2 cr)
    have b1 := behind_sq g.good.nd lt e1 e2 i1 i2 cr
    exact ⟨a1, by rw [a2, behindP_len], by rw [a3, behind_ent g lt e1 e2 i1 i2], by rw [List.length_cons]; omega⟩
def sweep (ns : List Str) (z : List (List Str)) : List (List Str) × List (Nat × Nat) := swp ns (prsT z.length z.length) z
theorem sweep_leads (z : List (List Str)) : leads ns z (sweep ns z).2 = some (sweep ns z).1 := swp_leads fun p hp => by obtain ⟨_, b, c⟩ := prsT_mem hp; exact ⟨b, c⟩
theorem sweep_none {z : List (List Str)} (h : (sweep ns z).2 = []) : (sweep ns z).1 = z ∧ stepsP ns z = [] := by
  obtain ⟨a, b⟩ := swp_none h
  exact ⟨a, List.filter_eq_nil_iff.mpr fun p hp => by rw [b p hp]; decide⟩
theorem sweep_skip {z : List (List Str)} (h : stepsP ns z = []) : sweep ns z = (z, []) := swp_skip fun p hp => by
  have := List.filter_eq_nil_iff.mp h p hp
  simpa using this
inductive Unc (ns : List Str) : List (List Str) → List (List Str) → List (Nat × Nat) → Prop
  | stop {z : List (List Str)} : (sweep ns z).2 = [] → Unc ns z (sweep ns z).1 []
  | more {z z' : List (List Str)} {s : List (Nat × Nat)} : (sweep ns z).2 ≠ [] → Unc ns (sweep ns z).1 z' s → Unc ns z z' ((sweep ns z).2 ++ s)
theorem Unc.det {z a : List (List Str)} {s : List (Nat × Nat)} (h : Unc ns z a s) : ∀ {b : List (List Str)} {t : List (Nat × Nat)}, Unc ns z b t → a = b ∧ s = t := by
  induction h with
  | stop e =>
    intro b t k
    cases k with
    | stop _ => exact ⟨rfl, rfl⟩
    | more n _ => exact absurd e n
  | more n _ ih =>
    intro b t k
    cases k with
    | stop e => exact absurd e n
    | more _ k' =>
      obtain ⟨e1, e2⟩ := ih k'
      exact ⟨e1, by rw [e2]⟩
theorem Unc.leads {z a : List (List Str)} {s : List (Nat × Nat)} (h : Unc ns z a s) : leads ns z s = some a := by
  induction h with
  | @stop z e => have q := sweep_leads (ns := ns) z; rw [e] at q; exact q
  | more _ _ ih => rw [leads_append (sweep_leads _)]; exact ih
theorem Unc.ends {z a : List (List Str)} {s : List (Nat × Nat)} (h : Unc ns z a s) : stepsP ns a = [] := by
  induction h with
  | stop e => obtain ⟨a, b⟩ := sweep_none e; rw [a]; exact b
  | more _ _ ih => exact ih
theorem Unc.again {z : List (List Str)} (h : stepsP ns z = []) : Unc ns z z [] := by
  have e := sweep_skip h
  have := Unc.stop (ns := ns) (z := z) (by rw [e])
  rw [e] at this
  exact this
end
end K34

set_option Elab.async false
set_option linter.all false
set_option maxRecDepth 100000
set_option maxHeartbeats 4000000
namespace K34
open PySem PySem.Spec PyProof.Rows L2
abbrev sSwept : Stmt := top 29 -- swept
abbrev sUnc : Stmt := top 30 -- uncrossed
theorem paired_append {α β : Type} {F : α → β → Prop} : ∀ {a c : List α} {b d : List β}, Paired F a b → Paired F c d → Paired F (a ++ c) (b ++ d)
  | _, _, _, _, .nil, q => q
  | _, _, _, _, .cons r t, q => .cons r (paired_append t q)
section
variable {P : Program} {w : World} {K : PySem.W.Frag} {mg : Str → Option Value} {base : Heap}
variable {C fP fS fA fPt fCu fB fO fR fCc fF fPs fBh fSw : Addr} {fdP fdS fdA fdPt fdCu fdB fdO fdR fdCc fdF fdPs fdBh fdSw : FuncData}
/-! ### one sweep -/
def spSwept (C : Addr) : Sp := fun vs H Q _ => ∃ (x l : Addr) (ms : List Str) (ps : List (Str × Str)) (us : List Addr) (zss : List (List Str)), vs = [.ref x, .ref l] ∧ WebObj C H x ms ps ∧ ms.length ≤ 12 ∧ H l = some (.lst (us.map V.ref)) ∧ CutsAt H us zss ∧ us.length ≤ 100 ∧
  ∀ r h q us' ts H', H' r = some (.tup [.ref h, .ref q]) → H' h = some (.lst (us'.map V.ref)) → CutsAt H' us' (sweep (srt ms) zss).1 → H' q = some (.lst (ts.map V.ref)) → PrsAt H' ts (sweep (srt ms) zss).2 → (h = l ∨ H h = none) → H q = none → h ≠ q → Same H H' → Q (.ref r) H'
abbrev nSw : List Str := ["web", "family", "steps", "i", "j"]
theorem scSw : FnScope nSw ["web", "family"] (defScope sSwept) := ⟨rfl, rfl, rfl, by decide +kernel, rfl, by decide +kernel, by decide +kernel⟩
def SwI (x l q : Addr) (ns : List Str) (zss : List (List Str)) (H H1 : Hp) (i : Nat) (σ : L2.St) (H2 : Hp) : Prop :=
  ∃ (h : Addr) (v3 v4 : Option V) (us ts : List Addr) (z : List (List Str)) (s : List (Nat × Nat)), σ = [some (.ref x), some (.ref h), some (.ref q), v3, v4] ∧ But q H1 H2 ∧ H2 h = some (.lst (us.map V.ref)) ∧ CutsAt H2 us z ∧ z.length = zss.length ∧ H2 q = some (.lst (ts.map V.ref)) ∧ PrsAt H2 ts s ∧ s.length ≤ i ∧ (h = l ∨ H h = none) ∧ h ≠ q ∧
    swp ns (prsT zss.length zss.length) zss = ((swp ns ((prsT zss.length zss.length).drop i) z).1, s ++ (swp ns ((prsT zss.length zss.length).drop i) z).2)
theorem ok_swept {f : Addr} {fd : FuncData} (F : Fun K "swept" "swept" sSwept f fd) (M : Mt K mg C fP fS fdP fdS) (DB : Df K mg "had_by_both" sHBB nHB fB fdB) (DO : Df K mg "had_by_one" sHBO nHB fO fdO) (DA : Df K mg "are_crossing" sAre ["web", "cut", "other"] fR fdR) (DP : Df K mg "pairs_of" sPairs ["many"] fPs fdPs) (DH : Df K mg "behind" sBehind ["web", "family", "i", "j"] fBh fdBh) (T : Glb mg) : FnOk P w K mg base CX0 4 f fd ["web", "family"] (spSwept C) := by
  have GP : FnOk P w K mg base CX0 1 fPs fdPs ["many"] spPairs := ok_pairs DP.fn T
  have GA : FnOk P w K mg base CX0 3 fR fdR ["web", "cut", "other"] (spAre C) := ok_are DA.fn M DB DO T
  have GB : FnOk P w K mg base CX0 3 fBh fdBh ["web", "family", "i", "j"] (spBehind C) := ok_behind DH.fn M DB DO T
  refine F.ok scSw (fun vs H Q E h => ?_) (fun cdv A outer s H vs Q E hr h => ?_)
  · obtain ⟨x, l, ms, ps, us, zss, rfl, _⟩ := h
    rfl
  · obtain ⟨x, l, ms, ps, us, zss, rfl, hW, lm, hl, hC, lu, k⟩ := h
    have h1 := hr.mono (j := 1) (by decide)
    refine ⟨_, pss_cons (ps_set (i := 2) scSw.nd rfl (Or.inl rfl) (pe_lst pa_nil))
      (pss_cons (ps_for PassesOwn.never rfl (pi_list (pe_call GP h1 rfl DP.mgf DP.fn.kp DP.b .nil pass0 (pa_cons (pe_callB call_len_seq (by rfl) T.len PySem.boot_len (pa_cons (pv 1) pa_nil)) pa_nil))) (pg_tup rfl (pgs_cons (pg_name (i := 3) scSw.nd rfl (Or.inl rfl)) (pgs_cons (pg_name (i := 4) scSw.nd rfl (Or.inl rfl)) pgs_nil)))
        (pss_one (ps_if (pt_val (pe_call GA hr rfl DA.mgf DA.fn.kp DA.b .nil pass0 (pa_cons (pv 0) (pa_cons (pe_ix ix_list (pv 1) (pv 3) (fun _ _ => rfl)) (pa_cons (pe_ix ix_list (pv 1) (pv 4) (fun _ _ => rfl)) pa_nil)))) (fun _ => rfl))
          (pss_cons (ps_set (i := 1) scSw.nd rfl (Or.inl rfl) (pe_call GB hr rfl DH.mgf DH.fn.kp DH.b .nil pass0 (pa_cons (pv 0) (pa_cons (pv 1) (pa_cons (pv 3) (pa_cons (pv 4) pa_nil))))))
          (pss_one (ps_expr (pe_bm PySem.F.plainAttrs_list PySem.F.slot_list_append PySem.F.type_list_append mt_append (pv 2) (pa_cons (pe_tup (pa_cons (pv 3) (pa_cons (pv 4) pa_nil))) pa_nil))))) pss_nil)))
      (pss_one (ps_ret (pe_tup (pa_cons (pv 1) (pa_cons (pv 2) pa_nil)))))), ?_⟩
    have lz : us.length = zss.length := hC.len
    refine ⟨(by decide), fun q hq => ?_⟩
    have s0 := same_upd (o := .lst []) hq
    have hq0 := upd_same (H := H) (a := q) (o := .lst [])
    refine ⟨_, rfl, l, _, rfl, .inl (SqL.of (s0 _ _ hl)), us.length, by simp, lu, fun t tt H1 ht ht1 hP1 s1 => ⟨t, rfl, ⟨_, SqL.of ht1⟩, ?_⟩⟩
    generalize upd H q (.lst []) = H0 at s0 hq0 ht s1
    rw [lz] at hP1
    have s01 := s0.trans s1
    have ntq : t ≠ q := fun e => by rw [e, hq0] at ht; cases ht
    have nlq : l ≠ q := ne_of_none hl hq
    have lT : tt.length = (prsT zss.length zss.length).length := hP1.len
    have lb : (prsT zss.length zss.length).length ≤ 10000 := Nat.le_trans (prsT_len _ _) (Nat.le_trans (Nat.mul_le_mul (by omega) (by omega) : _ ≤ 100 * 100) (by decide))
    refine for_list (K := K) (xs := tt.map V.ref) (SwI x l q (srt ms) zss H H1) ⟨l, _, _, us, [], zss, [], rfl, But.refl q H1, s01 _ _ hl, hC.same s01, rfl, s1 _ _ hq0, .nil, Nat.le_refl _, .inl rfl, nlq, by simp⟩ ?_ ?_ ?_
    · rintro i σ H2 _ ⟨h, v3, v4, us2, ts, z, st, rfl, b2, _⟩
      exact SqL.of (b2 _ _ ht1 ntq)
    · rintro i y σ H2 hy ⟨h, v3, v4, us2, ts, z, st, rfl, b2, hh, hC2, ez, hq2, hP2, ls, fr, nhq, eq⟩
      rw [List.getElem?_map] at hy
      obtain ⟨u, eu, rfl⟩ := Option.map_eq_some_iff.mp hy
      obtain ⟨p, ep, hu⟩ := hP1.get eu
      obtain ⟨m1, m2, m3⟩ := prsT_mem (List.mem_of_getElem? ep)
      have il : i < (prsT zss.length zss.length).length := (List.getElem?_eq_some_iff.mp ep).1
      have hu2 : H2 u = some (.tup [.int (p.1 : Nat), .int (p.2 : Nat)]) := b2 _ _ hu (ne_of (H := H1) hu (s1 _ _ hq0) (by intro z; cases z))
      have ed : (prsT zss.length zss.length).drop i = p :: (prsT zss.length zss.length).drop (i + 1) := by
        obtain ⟨hi, e⟩ := List.getElem?_eq_some_iff.mp ep
        rw [← e]; exact List.drop_eq_getElem_cons hi
      rw [ed] at eq
      have W2 : WebObj C H2 x ms ps := (hW.same s01).but b2 (s1 _ _ hq0)
      have l2 : us2.length = z.length := hC2.len
      have b1 : p.1 < us2.length := by omega
      have b22 : p.2 < us2.length := by omega
      have e1 : us2[p.1]? = some us2[p.1] := List.getElem?_eq_getElem b1
      have e2 : us2[p.2]? = some us2[p.2] := List.getElem?_eq_getElem b22
      have a1 : atI (us2.map V.ref) ((p.1 : Nat) : Int) = some (.ref us2[p.1]) := atI_nat (j := p.1) (by simp [b1])
      have a2 : atI (us2.map V.ref) ((p.2 : Nat) : Int) = some (.ref us2[p.2]) := atI_nat (j := p.2) (by simp [b22])
      obtain ⟨xs, ex, hx⟩ := hC2.get e1
      obtain ⟨zs, ezz, hz⟩ := hC2.get e2
      have ec : crossP (srt ms) xs zs = crs (srt ms) z p := by unfold crs; rw [getD_of ex, getD_of ezz]
      refine ⟨u, _, rfl, SqT.of hu2, rfl, _, _, rfl, _, _, rfl, rfl, ?_⟩
      refine ⟨_, rfl, _, rfl, _, rfl, h, _, _, _, rfl, rfl, SqL.of hh, a1, _, rfl, _, rfl, h, _, _, _, rfl, rfl, SqL.of hh, a2, ?_⟩
      refine ⟨x, us2[p.1], us2[p.2], ms, xs, zs, ps, rfl, W2, lm, hx, hz, fun H3 s3 => ⟨_, rfl, ?_⟩⟩
      rw [ec]
      by_cases hb : crs (srt ms) z p = true
      · rw [hb]
        rw [swp_pos hb] at eq
        have s23 := s3
        refine iteT ⟨_, rfl, _, rfl, _, rfl, _, rfl, x, h, ms, ps, us2, z, p, rfl, W2.same s3, lm, s3 _ _ hh, hC2.same s3, m2, b22, fun h' t' H4 nh' hh' hC4 s4 => ?_⟩
        have s24 := s3.trans s4
        have hq4 := s24 _ _ hq2
        have nh'q : h' ≠ q := fun e => by rw [e] at nh'; rw [s3 _ _ hq2] at nh'; cases nh'
        refine ⟨_, rfl, .inl ⟨rfl, _, SqL.of hq4⟩, _, rfl, _, rfl, (show 2 ≤ sizeLine by decide), fun pp hpp => ?_⟩
        have s5 := same_upd (o := .tup [.int (p.1 : Nat), .int (p.2 : Nat)]) hpp
        have hpp5 := upd_same (H := H4) (a := pp) (o := .tup [.int (p.1 : Nat), .int (p.2 : Nat)])
        generalize upd H4 pp (.tup [.int (p.1 : Nat), .int (p.2 : Nat)]) = H5 at s5 hpp5 ⊢
        have hq5 := s5 _ _ hq4
        refine ⟨q, _, _, rfl, rfl, hq5, by rw [List.length_map, hP2.len]; exact Nat.lt_of_le_of_lt (by omega : st.length ≤ 10000) (by decide), ?_⟩
        have mv : ∀ t xs, H5 t = some (.tup xs) → (upd H5 q (.lst (ts.map V.ref ++ [.ref pp]))) t = some (.tup xs) := fun t xs e => by rw [L2.upd_ne (ne_of e hq5 (by intro z; cases z))]; exact e
        refine ⟨h', _, _, t', ts ++ [pp], behindP (srt ms) z p, st ++ [p], rfl, fun c o e n => ?_, by rw [L2.upd_ne nh'q]; exact s5 _ _ hh', (hC4.same s5).mono mv, by rw [behindP_len]; exact ez, by rw [upd_same]; simp, PrsAt.snoc (((hP2.same s24).same s5).mono mv) (mv _ _ hpp5), by rw [List.length_append]; simp; omega, ?_, nh'q, ?_⟩
        · rw [L2.upd_ne n]; exact s5 _ _ (s24 _ _ (b2 c o e n))
        · refine .inr ?_
          cases e : H h' with
          | none => rfl
          | some o =>
            have n : h' ≠ q := nh'q
            have z3 := s3 _ _ (b2 _ _ (s01 _ _ e) n)
            rw [z3] at nh'
            cases nh'
        · rw [eq]; simp
      · have hb' : crs (srt ms) z p = false := by simpa using hb
        rw [hb']
        rw [swp_neg hb] at eq
        exact iteF ⟨h, _, _, us2, ts, z, st, rfl, fun c o e n => s3 _ _ (b2 c o e n), s3 _ _ hh, hC2.same s3, ez, s3 _ _ hq2, hP2.same s3, by omega, fr, nhq, eq⟩
    · rintro σ H2 ⟨h, v3, v4, us2, ts, z, st, rfl, b2, hh, hC2, ez, hq2, hP2, ls, fr, nhq, eq⟩
      rw [List.length_map, lT, List.drop_of_length_le (Nat.le_refl _)] at eq
      have es : sweep (srt ms) zss = (z, st) := by unfold sweep; rw [eq]; simp [swp]
      have s2 : Same H H2 := fun c o e => b2 c o (s01 c o e) (ne_of_none e hq)
      refine ⟨_, rfl, _, rfl, (show 2 ≤ sizeLine by decide), fun r hr' => ?_⟩
      have s3 := same_upd (o := .tup [.ref h, .ref q]) hr'
      exact k r h q us2 ts _ upd_same (s3 _ _ hh) (by rw [es]; exact hC2.same s3) (s3 _ _ hq2) (by rw [es]; exact hP2.same s3) fr hq nhq (s2.trans s3)
/-! ### sweeps until none is left -/
def spUnc (C : Addr) : Sp := fun vs H Q _ => ∃ (x l : Addr) (ns ms : List Str) (ps : List (Str × Str)) (us : List Addr) (zss : List (List Str)), vs = [.ref x, .ref l] ∧ Fam C H x l ns ms ps us zss ∧ srt ns = ns ∧ GoodW ns ps ∧
  ∀ r h q us' ts z s H', H r = none → H' r = some (.tup [.ref h, .ref q]) → H' h = some (.lst (us'.map V.ref)) → CutsAt H' us' z → H' q = some (.lst (ts.map V.ref)) → PrsAt H' ts s → H h = none → H q = none → h ≠ q → Unc ns zss z s → Same H H' → Q (.ref r) H'
abbrev nUn : List Str := ["web", "family", "after", "more", "steps"]
theorem scUn : FnScope nUn ["web", "family"] (defScope sUnc) := ⟨rfl, rfl, rfl, by decide +kernel, rfl, by decide +kernel, by decide +kernel⟩
def UnI (x l : Addr) (ns : List Str) (zss : List (List Str)) (B : Nat) (H : Hp) (m : Nat) (σ : L2.St) (H2 : Hp) : Prop :=
  ∃ (h mo st : Addr) (us tm ts : List Addr) (z : List (List Str)) (mS acc : List (Nat × Nat)), σ = [some (.ref x), some (.ref l), some (.ref h), some (.ref mo), some (.ref st)] ∧ Same H H2 ∧ H2 h = some (.lst (us.map V.ref)) ∧ CutsAt H2 us z ∧ H2 mo = some (.lst (tm.map V.ref)) ∧ PrsAt H2 tm mS ∧ H2 st = some (.lst (ts.map V.ref)) ∧ PrsAt H2 ts acc ∧ H h = none ∧ H st = none ∧ h ≠ st ∧
    leads ns zss acc = some z ∧ (mS = [] → Unc ns zss z acc) ∧ (mS ≠ [] → ∀ z' s', Unc ns z z' s' → Unc ns zss z' (acc ++ s')) ∧ m = if mS = [] then 0 else B + 1 - sqs z
theorem ok_unc {f : Addr} {fd : FuncData} (F : Fun K "uncrossed" "uncrossed" sUnc f fd) (D : Xd K mg C fP fS fA fPt fCu fB fO fR fCc fF fdP fdS fdA fdPt fdCu fdB fdO fdR fdCc fdF) (DP : Df K mg "pairs_of" sPairs ["many"] fPs fdPs) (DH : Df K mg "behind" sBehind ["web", "family", "i", "j"] fBh fdBh) (DS : Df K mg "swept" sSwept ["web", "family"] fSw fdSw) (T : Glb mg) : FnOk P w K mg base CX0 6 f fd ["web", "family"] (spUnc C) := by
  have GF : FnOk P w K mg base CX0 5 fF fdF ["web", "family"] (spChkF C) := ok_chkF D.f.fn D.cd D.cc T
  have GS : FnOk P w K mg base CX0 4 fSw fdSw ["web", "family"] (spSwept C) := ok_swept DS.fn D.cd.m D.b D.o D.r DP DH T
  refine F.ok scUn (fun vs H Q E h => ?_) (fun cdv A outer s H vs Q E hr h => ?_)
  · obtain ⟨x, l, ns, ms, ps, us, zss, rfl, _⟩ := h
    rfl
  · obtain ⟨x, l, ns, ms, ps, us, zss, rfl, ⟨hW, pm, g, hl, hC, all, lu⟩, rise, gw, k⟩ := h
    have em : srt ms = ns := by rw [srt_perm_eq pm, rise]
    have h4 := hr.mono (j := 4) (by decide)
    refine ⟨_, pss_cons (ps_expr (pe_call GF hr rfl D.f.mgf D.f.fn.kp D.f.b .nil pass0 (pa_cons (pv 0) (pa_cons (pv 1) pa_nil))))
      (pss_cons (ps_asg (pe_call GS h4 rfl DS.mgf DS.fn.kp DS.b .nil pass0 (pa_cons (pv 0) (pa_cons (pe_callTy call_list_of (by rfl) T.list PyProof.Rows.boot_list (pa_cons (pv 1) pa_nil)) pa_nil))) (pg_tup rfl (pgs_cons (pg_name (i := 2) scUn.nd rfl (Or.inl rfl)) (pgs_cons (pg_name (i := 3) scUn.nd rfl (Or.inl rfl)) pgs_nil))))
      (pss_cons (ps_set (i := 4) scUn.nd rfl (Or.inl rfl) (pe_callTy call_list_of (by rfl) T.list PyProof.Rows.boot_list (pa_cons (pv 3) pa_nil)))
      (pss_cons (ps_while PassesOwn.never (pt_truth (pv 3) (fun _ => rfl))
        (pss_cons (ps_asg (pe_call GS h4 rfl DS.mgf DS.fn.kp DS.b .nil pass0 (pa_cons (pv 0) (pa_cons (pv 2) pa_nil))) (pg_tup rfl (pgs_cons (pg_name (i := 2) scUn.nd rfl (Or.inl rfl)) (pgs_cons (pg_name (i := 3) scUn.nd rfl (Or.inl rfl)) pgs_nil))))
        (pss_one (ps_expr (pe_bm PySem.F.plainAttrs_list PySem.F.slot_list_extend PySem.F.type_list_extend mt_extend (pv 4) (pa_cons (pv 3) pa_nil))))))
      (pss_one (ps_ret (pe_tup (pa_cons (pv 2) (pa_cons (pv 4) pa_nil)))))))), ?_⟩
    refine ⟨_, rfl, _, rfl, x, l, ns, ms, ps, us, zss, rfl, hW, pm, g, hl, hC, all, fun H1 s1 => ?_⟩
    refine ⟨_, rfl, _, rfl, l, _, rfl, .inl (SqL.of (s1 _ _ hl)), fun l0 hl0 => ?_⟩
    have s2 := s1.trans (same_upd (o := .lst (us.map V.ref)) hl0)
    have Hl0 : H l0 = none := s1.free hl0
    have h02 := upd_same (H := H1) (a := l0) (o := .lst (us.map V.ref))
    generalize upd H1 l0 (.lst (us.map V.ref)) = H2 at s2 h02 ⊢
    refine ⟨x, l0, ms, ps, us, zss, rfl, hW.same s2, g.good.few, h02, hC.same s2, lu, fun r h mo us3 tm H3 hr3 hh3 hC3 hm3 hP3 fr nmo nhm s3 => ?_⟩
    rw [em] at hC3 hP3
    have s03 := s2.trans s3
    have Hh : H h = none := fr.elim (fun e => by rw [e]; exact Hl0) (fun e => s2.free e)
    refine ⟨r, _, rfl, SqT.of hr3, rfl, _, _, rfl, _, _, rfl, rfl, ?_⟩
    refine ⟨_, rfl, mo, _, rfl, .inl (SqL.of hm3), fun st hst => ?_⟩
    have s4 := same_upd (o := .lst (tm.map V.ref)) hst
    have hst4 := upd_same (H := H3) (a := st) (o := .lst (tm.map V.ref))
    have Hst : H st = none := s03.free hst
    have nhs : h ≠ st := ne_of_none hh3 hst
    change tSeq _ _ _ _ (upd H3 st (.lst (tm.map V.ref)))
    generalize upd H3 st (.lst (tm.map V.ref)) = H4 at s4 hst4 ⊢
    have s04 := s03.trans s4
    have few := gw.good.few
    have bnd : ∀ {acc : List (Nat × Nat)} {z : List (List Str)}, leads ns zss acc = some z → (∀ zs ∈ z, IsC ns ps zs) ∧ z.length = zss.length ∧ acc.length ≤ sqs z ∧ sqs z ≤ zss.length * (ns.length * ns.length) := fun {acc z} hL => by
      obtain ⟨a1, a2, _, a4⟩ := leads_keeps gw rise hL all
      have q := sqs_le (m := ns.length) fun zs hz => (a1 zs hz).less
      rw [a2] at q
      exact ⟨a1, a2, by omega, q⟩
    have big : zss.length * (ns.length * ns.length) ≤ 100 * (12 * 12) := Nat.mul_le_mul (by rw [← hC.len]; exact lu) (Nat.mul_le_mul few few)
    refine ⟨UnI x l ns zss (zss.length * (ns.length * ns.length)) H, ⟨_, h, mo, st, us3, tm, tm, (sweep ns zss).1, (sweep ns zss).2, (sweep ns zss).2, rfl, s04, s4 _ _ hh3, hC3.same s4, s4 _ _ hm3, hP3.same s4, hst4, hP3.same s4, Hh, Hst, nhs, sweep_leads zss, fun e => ?_, fun e z' s' u => Unc.more e u, rfl⟩, ?_⟩
    · have := Unc.stop e
      rw [e]
      exact this
    rintro m σ H5 ⟨h, mo, st, us5, tm, ts, z, mS, acc, rfl, s5, hh, hC5, hm5, hP5, hst5, hA5, Hh, Hst, nhs, hL, u0, u1, rfl⟩
    obtain ⟨all5, lz, acl, sql⟩ := bnd hL
    refine ⟨_, rfl, _, .inl ⟨_, SqL.of hm5, rfl⟩, ?_⟩
    refine ite2 (fun c => ?_) (fun c => ?_)
    · have ne : mS ≠ [] := fun e => by
        have : tm = [] := List.length_eq_zero_iff.mp (by rw [hP5.len, e]; rfl)
        rw [this] at c; simp at c
      refine ⟨fun σ' H' => ∃ m', m' < (if mS = [] then 0 else zss.length * (ns.length * ns.length) + 1 - sqs z) ∧ UnI x l ns zss (zss.length * (ns.length * ns.length)) H m' σ' H', fun _ _ q => q, ?_⟩
      refine ⟨_, rfl, _, rfl, x, h, ms, ps, us5, z, rfl, hW.same s5, g.good.few, hh, hC5, by rw [hC5.len, lz, ← hC.len]; exact lu, fun r2 h2 mo2 us6 tm2 H6 hr6 hh6 hC6 hm6 hP6 fr2 nmo2 nhm2 s6 => ?_⟩
      rw [em] at hC6 hP6
      have s06 := s5.trans s6
      refine ⟨r2, _, rfl, SqT.of hr6, rfl, _, _, rfl, _, _, rfl, rfl, ?_⟩
      have hst6 := s6 _ _ hst5
      have nms : mo2 ≠ st := fun e => by rw [e, hst5] at nmo2; cases nmo2
      have nh2s : h2 ≠ st := fr2.elim (fun e => by rw [e]; exact nhs) (fun e q => by rw [q, hst5] at e; cases e)
      have Hh2 : H h2 = none := fr2.elim (fun e => by rw [e]; exact Hh) (fun e => s5.free e)
      have hL2 : leads ns zss (acc ++ (sweep ns z).2) = some (sweep ns z).1 := by rw [leads_append hL]; exact sweep_leads z
      obtain ⟨all6, lz6, acl6, sql6⟩ := bnd hL2
      refine ⟨_, rfl, .inl ⟨rfl, _, SqL.of hst6⟩, _, rfl, st, mo2, _, _, rfl, rfl, hst6, hm6, ?_, ?_⟩
      · rw [List.length_map, List.length_map, hA5.len, hP6.len]
        rw [List.length_append] at acl6
        exact Nat.le_trans (by omega : _ ≤ 100 * (12 * 12)) (by decide)
      have mv : ∀ t xs, H6 t = some (.tup xs) → (upd H6 st (.lst (ts.map V.ref ++ tm2.map V.ref))) t = some (.tup xs) := fun t xs e => by rw [L2.upd_ne (ne_of e hst6 (by intro z; cases z))]; exact e
      have s7 : Same H (upd H6 st (.lst (ts.map V.ref ++ tm2.map V.ref))) := Same.upd_new s06 Hst
      refine ⟨if (sweep ns z).2 = [] then 0 else zss.length * (ns.length * ns.length) + 1 - sqs (sweep ns z).1, ?_, h2, mo2, st, us6, tm2, ts ++ tm2, (sweep ns z).1, (sweep ns z).2, acc ++ (sweep ns z).2, rfl, s7, by rw [L2.upd_ne nh2s]; exact hh6, hC6.mono mv, by rw [L2.upd_ne nms]; exact hm6, hP6.mono mv, by rw [upd_same, List.map_append], paired_append ((hA5.same s6).mono mv) (hP6.mono mv), Hh2, Hst, nh2s, hL2, fun e => ?_, fun e z' s' u => ?_, rfl⟩
      · rw [if_neg ne]
        by_cases e : (sweep ns z).2 = []
        · rw [if_pos e]; omega
        · rw [if_neg e]
          obtain ⟨_, _, _, a4⟩ := leads_keeps gw rise (sweep_leads z) all5
          have pos := List.length_pos_iff.mpr e
          omega
      · have u := u1 ne _ _ (Unc.stop e)
        rw [e]
        exact u
      · rw [List.append_assoc]
        exact u1 ne _ _ (Unc.more e u)
    · have em0 : mS = [] := by
        cases e : mS with
        | nil => rfl
        | cons a r =>
          exfalso
          have : tm ≠ [] := fun q => by have := hP5.len; rw [q, e] at this; cases this
          cases tm with
          | nil => exact this rfl
          | cons => simp at c
      refine ⟨_, rfl, _, rfl, (show 2 ≤ sizeLine by decide), fun r hr' => ?_⟩
      have s6 := same_upd (o := .tup [.ref h, .ref st]) hr'
      exact k r h st us5 ts z acc _ (s5.free hr') upd_same (s6 _ _ hh) (hC5.same s6) (s6 _ _ hst5) (hA5.same s6) Hh Hst nhs (u0 em0) (s5.trans s6)
end
end K34

set_option Elab.async false
set_option linter.all false
set_option maxRecDepth 100000
set_option maxHeartbeats 4000000
namespace K34
open PySem PySem.Spec PyProof.Rows L2
abbrev sLed : Stmt := top 44 -- _law_led
section
variable {P : Program} {w : World} {K : PySem.W.Frag} {mg : Str → Option Value} {base : Heap} {fX : Addr} {fdX : FuncData}
/-! ### the law's own way along the steps -/
def spLed : Sp := fun vs H Q _ => ∃ (a l st : Addr) (ns : List Str) (ps : List (Str × Str)) (us ts : List Addr) (zss z' : List (List Str)) (sts : List (Nat × Nat)), vs = [.ref a, .ref l, .ref st] ∧ H a = some (.lst (ns.map V.str)) ∧ srt ns = ns ∧ GoodW ns ps ∧ H l = some (.lst (us.map V.ref)) ∧ CutsAt H us zss ∧ (∀ zs ∈ zss, IsC ns ps zs) ∧ us.length ≤ 100 ∧ H st = some (.lst (ts.map V.ref)) ∧ PrsAt H ts sts ∧ leads ns zss sts = some z' ∧
  ∀ q us' H', H q = none → H' q = some (.lst (us'.map V.ref)) → CutsAt H' us' z' → Same H H' → Q (.ref q) H'
abbrev nLd : List Str := ["_law_names_here", "_law_family_here", "_law_steps", "_law_here", "_law_step", "_law_one", "_law_other"]
abbrev aLd : List Str := ["_law_names_here", "_law_family_here", "_law_steps"]
theorem scLd : FnScope nLd aLd (defScope sLed) := ⟨rfl, rfl, rfl, by decide +kernel, rfl, by decide +kernel, by decide +kernel⟩
theorem ok_led {f : Addr} {fd : FuncData} (F : Fun K "_law_led" "_law_led" sLed f fd) (DX : Df K mg "_law_cross" sCross ["_law_names_here", "_law_one", "_law_other"] fX fdX) (T : Glb mg) : FnOk P w K mg base CX0 2 f fd aLd spLed := by
  have GX : FnOk P w K mg base CX0 1 fX fdX ["_law_names_here", "_law_one", "_law_other"] spLCross := ok_lcross DX.fn T
  refine F.ok scLd (fun vs H Q E h => ?_) (fun cdv A outer s H vs Q E hr h => ?_)
  · obtain ⟨a, l, st, ns, ps, us, ts, zss, z', sts, rfl, _⟩ := h
    rfl
  · obtain ⟨a, l, st, ns, ps, us, ts, zss, z', sts, rfl, ha, rise, gw, hl, hC, all, lu, hst, hP, hL, k⟩ := h
    refine ⟨_, pss_cons (ps_set (i := 3) scLd.nd rfl (Or.inl rfl) (pe_callTy call_list_of (by rfl) T.list PyProof.Rows.boot_list (pa_cons (pv 1) pa_nil)))
      (pss_cons (ps_for PassesOwn.never rfl (pi_list (pv 2)) (pg_name (i := 4) scLd.nd rfl (Or.inl rfl))
        (pss_cons (ps_if (PW.pt (pw_or (pt_not (pt_val (pe_callB (call_isinst (T := "tuple")) (by rfl) T.isinst PyProof.Rows.boot_isinstance (pa_cons (pv 4) (pa_cons (pe_bltn (v := .ty "tuple") rfl T.tuple PyProof.Rows.boot_tuple rfl) pa_nil))) (fun _ => rfl)))
          (pw_or (pt_cmpR op_ne (pe_callB call_len_seq (by rfl) T.len PySem.boot_len (pa_cons (pv 4) pa_nil)) pe_int (nomark _))
          (pw_or1 (pt_not (pt_chain3 op_le op_lt op_lt pe_int (pe_ix ix_tup (pv 4) pe_int (fun _ _ => rfl)) (pe_ix ix_tup (pv 4) pe_int (fun _ _ => rfl)) (pe_callB call_len_seq (by rfl) T.len PySem.boot_len (pa_cons (pv 3) pa_nil)))))))) (pss_one ps_never) pss_nil)
        (pss_cons (ps_asg (pe_tup (pa_cons (pe_ix ix_list (pv 3) (pe_ix ix_tup (pv 4) pe_int (fun _ _ => rfl)) (fun _ _ => rfl)) (pa_cons (pe_ix ix_list (pv 3) (pe_ix ix_tup (pv 4) pe_int (fun _ _ => rfl)) (fun _ _ => rfl)) pa_nil))) (pg_tup rfl (pgs_cons (pg_name (i := 5) scLd.nd rfl (Or.inr rfl)) (pgs_cons (pg_name (i := 6) scLd.nd rfl (Or.inr rfl)) pgs_nil))))
        (pss_cons (ps_if (pt_not (pt_val (pe_call GX hr rfl DX.mgf DX.fn.kp DX.b .nil pass0 (pa_cons (pv 0) (pa_cons (pv 5) (pa_cons (pv 6) pa_nil)))) (fun _ => rfl))) (pss_one ps_never) pss_nil)
        (pss_cons (ps_asg (pe_callTy call_tuple_of (by rfl) T.tuple PyProof.Rows.boot_tuple (pa_cons (pe_lc ["_law_place"] [5, 6] rfl (compSc (osc := (defScope sLed).names) (N := nLd) rfl rfl (by decide +kernel)) (gk_name (by decide)) (pi_list (pv 0))
          (fun _ _ _ => pg_name (i := 0) (show (["_law_place", "_law_one", "_law_other"] : List Str).Nodup by decide +kernel) rfl (Or.inl rfl))
          (fun _ _ _ => pifs_one (PW.pt (pw_and (pt_cmpR (r := rIn K false) op_in_seq (pv 0) (pv 1) rfl) (pw_and1 (pt_cmpR (r := rIn K false) op_in_seq (pv 0) (pv 2) rfl))))) (fun _ _ _ => pv 0)) pa_nil)) (pg_sub (pv 3) (pe_ix ix_tup (pv 4) pe_int (fun _ _ => rfl)) set_list))
        (pss_one (ps_asg (pe_callTy call_tuple_of (by rfl) T.tuple PyProof.Rows.boot_tuple (pa_cons (pe_lc ["_law_place"] [5, 6] rfl (compSc (osc := (defScope sLed).names) (N := nLd) rfl rfl (by decide +kernel)) (gk_name (by decide)) (pi_list (pv 0))
          (fun _ _ _ => pg_name (i := 0) (show (["_law_place", "_law_one", "_law_other"] : List Str).Nodup by decide +kernel) rfl (Or.inl rfl))
          (fun _ _ _ => pifs_one (PW.pt (pw_or (pt_cmpR (r := rIn K false) op_in_seq (pv 0) (pv 1) rfl) (pw_or1 (pt_cmpR (r := rIn K false) op_in_seq (pv 0) (pv 2) rfl))))) (fun _ _ _ => pv 0)) pa_nil)) (pg_sub (pv 3) (pe_ix ix_tup (pv 4) pe_int (fun _ _ => rfl)) set_list))))))))
      (pss_one (ps_ret (pv 3)))), ?_⟩
    have few := gw.good.few
    refine ⟨_, rfl, l, _, rfl, .inl (SqL.of hl), fun q hq => ?_⟩
    have s1 := same_upd (o := .lst (us.map V.ref)) hq
    have hq1 := upd_same (H := H) (a := q) (o := .lst (us.map V.ref))
    change tSeq _ _ _ _ (upd H q (.lst (us.map V.ref)))
    generalize upd H q (.lst (us.map V.ref)) = H1 at s1 hq1 ⊢
    refine ⟨_, rfl, st, rfl, ⟨_, SqL.of (s1 _ _ hst)⟩, ?_⟩
    refine for_list (K := K) (xs := ts.map V.ref) (fun i σ H2 => ∃ v4 v5 v6 us2 z, σ = [some (.ref a), some (.ref l), some (.ref st), some (.ref q), v4, v5, v6] ∧ Same H H2 ∧ H2 q = some (.lst (us2.map V.ref)) ∧ CutsAt H2 us2 z ∧ leads ns zss (sts.take i) = some z ∧ leads ns z (sts.drop i) = some z') ⟨_, _, _, us, zss, rfl, s1, hq1, hC.same s1, rfl, hL⟩ ?_ ?_ ?_
    · rintro i σ H2 _ ⟨v4, v5, v6, us2, z, rfl, s2, _⟩
      exact SqL.of (s2 _ _ hst)
    · rintro i y σ H2 hy ⟨v4, v5, v6, us2, z, rfl, s2, hq2, hC2, l1, l2⟩
      rw [List.getElem?_map] at hy
      obtain ⟨u, eu, rfl⟩ := Option.map_eq_some_iff.mp hy
      obtain ⟨p, ep, hu⟩ := (hP.same s2).get eu
      have ed : sts.drop i = p :: sts.drop (i + 1) := by
        obtain ⟨hi, e⟩ := List.getElem?_eq_some_iff.mp ep
        rw [← e]; exact List.drop_eq_getElem_cons hi
      rw [ed] at l2
      obtain ⟨⟨lt, lnz, cr⟩, l3⟩ := leads_cons l2
      have l4 : leads ns zss (sts.take (i + 1)) = some (behindP ns z p) := by
        rw [List.take_add_one, ep, leads_append l1]
        show leads ns z [p] = _
        rw [leads, if_pos ⟨lt, lnz, cr⟩]; rfl
      obtain ⟨all2, _⟩ := leads_keeps gw rise l1 all
      have lz : us2.length = z.length := hC2.len
      have ln : p.2 < us2.length := by omega
      have b1 : p.1 < us2.length := by omega
      have e1 : us2[p.1]? = some us2[p.1] := List.getElem?_eq_getElem b1
      have e2 : us2[p.2]? = some us2[p.2] := List.getElem?_eq_getElem ln
      have i1 : atI (us2.map V.ref) ((p.1 : Nat) : Int) = some (.ref us2[p.1]) := atI_nat (j := p.1) (by simp [b1])
      have i2 : atI (us2.map V.ref) ((p.2 : Nat) : Int) = some (.ref us2[p.2]) := atI_nat (j := p.2) (by simp [ln])
      have a0 : atI [V.int (p.1 : Nat), V.int (p.2 : Nat)] 0 = some (.int (p.1 : Nat)) := rfl
      have a1 : atI [V.int (p.1 : Nat), V.int (p.2 : Nat)] 1 = some (.int (p.2 : Nat)) := rfl
      obtain ⟨xs, ex, hx⟩ := hC2.get e1
      obtain ⟨ys, ey, hy'⟩ := hC2.get e2
      have ix := all2 xs (List.mem_of_getElem? ex)
      have iy := all2 ys (List.mem_of_getElem? ey)
      have ec : crossL ns xs ys = true := by
        rw [cross_eq gw.good.nd ix.shut.nd iy.shut.nd ix.shut.ins iy.shut.ins]
        unfold crs at cr; rw [getD_of ex, getD_of ey] at cr; exact cr
      refine ⟨_, rfl, _, _, true, rfl, .tup hu, rfl, _, rfl, ?_⟩
      refine iteF ⟨_, rfl, u, _, rfl, .inr (SqT.of hu), rfl, _, rfl, ?_⟩
      refine iteF ⟨_, rfl, u, _, _, _, rfl, rfl, SqT.of hu, a0, _, _, rfl, rfl, _, rfl, ?_⟩
      rw [decide_eq_true (show (0 : Int) ≤ (p.1 : Nat) by omega)]
      refine iteT ⟨_, rfl, u, _, _, _, rfl, rfl, SqT.of hu, a1, _, _, rfl, rfl, _, rfl, ?_⟩
      rw [decide_eq_true (show ((p.1 : Nat) : Int) < (p.2 : Nat) by omega)]
      refine iteT ⟨_, rfl, q, _, rfl, .inl (SqL.of hq2), _, _, rfl, rfl, _, rfl, ?_⟩
      rw [decide_eq_true (show ((p.2 : Nat) : Int) < ((us2.map V.ref).length : Nat) by rw [List.length_map]; omega)]
      refine iteF ⟨_, rfl, _, rfl, u, _, _, _, rfl, rfl, SqT.of hu, a0, q, _, _, _, rfl, rfl, SqL.of hq2, i1, _, rfl, _, rfl, u, _, _, _, rfl, rfl, SqT.of hu, a1, q, _, _, _, rfl, rfl, SqL.of hq2, i2, (show 2 ≤ sizeLine by decide), fun t0 ht0 => ?_⟩
      have s0 := same_upd (o := .tup [.ref us2[p.1], .ref us2[p.2]]) ht0
      have h0 := upd_same (H := H2) (a := t0) (o := .tup [.ref us2[p.1], .ref us2[p.2]])
      generalize upd H2 t0 (.tup [.ref us2[p.1], .ref us2[p.2]]) = H0 at s0 h0 ⊢
      refine ⟨t0, _, rfl, SqT.of h0, rfl, _, _, rfl, _, _, rfl, rfl, ?_⟩
      refine ⟨_, rfl, _, rfl, _, rfl, a, us2[p.1], us2[p.2], ns, xs, ys, rfl, s0 _ _ (s2 _ _ ha), s0 _ _ hx, s0 _ _ hy', by have := ix.less; omega, by have := iy.less; omega, fun H1' s1' => ⟨_, rfl, ?_⟩⟩
      rw [ec]
      have sA := s0.trans s1'
      have s0A := s2.trans sA
      have haA := s0A _ _ ha
      have hqA := sA _ _ hq2
      have hxA := sA _ _ hx
      have hyA := sA _ _ hy'
      have huA := sA _ _ hu
      have hCA := hC2.same sA
      refine iteF ⟨_, rfl, a, rfl, ⟨_, SqL.of haA⟩, ?_⟩
      refine flt_l (K := K) (xs := ns) (by omega) haA (fun z => decide (z ∈ xs) && decide (z ∈ ys)) (fun z H3 R _ s3 q => ?_) (fun z H3 R q => ⟨_, rfl, q⟩) fun D H3 s3 hD => ?_
      · refine ⟨_, rfl, _, rfl, us2[p.1], _, rfl, .inr (SqT.of (s3 _ _ hxA)), rfl, flat_strs xs, _, rfl, ?_⟩
        simp only [Bool.false_eq_true, if_false]
        rw [inV_str]
        by_cases h1 : z ∈ xs
        · rw [decide_eq_true h1] at q ⊢
          refine iteT ⟨_, rfl, _, rfl, us2[p.2], _, rfl, .inr (SqT.of (s3 _ _ hyA)), rfl, flat_strs ys, _, rfl, ?_⟩
          simp only [Bool.false_eq_true, if_false]
          rw [inV_str]
          exact q
        · rw [decide_eq_false h1] at q ⊢
          exact iteF q
      refine ⟨D, _, rfl, .inl ⟨SqL.of upd_same, fun l1' hl1 => ?_⟩⟩
      have s4 : Same H1' _ := s3.trans ((same_upd (o := .lst ((ns.filter fun z => decide (z ∈ xs) && decide (z ∈ ys)).map V.str)) hD).trans (same_upd (o := .tup ((both ns xs ys).map V.str)) hl1))
      have hl4 := upd_same (H := upd H3 D (.lst ((ns.filter fun z => decide (z ∈ xs) && decide (z ∈ ys)).map V.str))) (a := l1') (o := .tup ((both ns xs ys).map V.str))
      change gSub _ _ _ _ _ (upd (upd H3 D (.lst ((ns.filter fun z => decide (z ∈ xs) && decide (z ∈ ys)).map V.str))) l1' (.tup ((both ns xs ys).map V.str))) _
      generalize upd (upd H3 D (.lst ((ns.filter fun z => decide (z ∈ xs) && decide (z ∈ ys)).map V.str))) l1' (.tup ((both ns xs ys).map V.str)) = H4 at s4 hl4 ⊢
      have hq4 := s4 _ _ hqA
      have s04 := s0A.trans s4
      refine ⟨_, rfl, _, rfl, u, _, _, _, rfl, rfl, SqT.of (s4 _ _ huA), a0, q, _, _, p.1, rfl, rfl, hq4, ixN_nat (by simp [b1]), ?_⟩
      have n1 : l1' ≠ q := ne_of hl4 hq4 (by intro z; cases z)
      have mv1 : ∀ t xs, H4 t = some (.tup xs) → (upd H4 q (.lst ((us2.map V.ref).set p.1 (.ref l1')))) t = some (.tup xs) := fun t xs e => by rw [L2.upd_ne (ne_of e hq4 (by intro z; cases z))]; exact e
      have s5 : Same H (upd H4 q (.lst ((us2.map V.ref).set p.1 (.ref l1')))) := Same.upd_new s04 hq
      have hq5 := upd_same (H := H4) (a := q) (o := .lst ((us2.map V.ref).set p.1 (.ref l1')))
      have hl5 := mv1 _ _ hl4
      have hx5 := mv1 _ _ (s4 _ _ hxA)
      have hy5 := mv1 _ _ (s4 _ _ hyA)
      have hu5 := mv1 _ _ (s4 _ _ huA)
      have hC5 := (hCA.same s4).mono mv1
      show tSeq _ _ _ _ (upd H4 q (.lst ((us2.map V.ref).set p.1 (.ref l1'))))
      generalize upd H4 q (.lst ((us2.map V.ref).set p.1 (.ref l1'))) = H5 at s5 hq5 hl5 hx5 hy5 hu5 hC5 ⊢
      refine ⟨_, rfl, a, rfl, ⟨_, SqL.of (s5 _ _ ha)⟩, ?_⟩
      refine flt_l (K := K) (xs := ns) (by omega) (s5 _ _ ha) (fun z => decide (z ∈ xs) || decide (z ∈ ys)) (fun z H6 R _ s6 q => ?_) (fun z H6 R q => ⟨_, rfl, q⟩) fun D2 H6 s6 hD2 => ?_
      · refine ⟨_, rfl, _, rfl, us2[p.1], _, rfl, .inr (SqT.of (s6 _ _ hx5)), rfl, flat_strs xs, _, rfl, ?_⟩
        simp only [Bool.false_eq_true, if_false]
        rw [inV_str]
        by_cases h1 : z ∈ xs
        · rw [decide_eq_true h1] at q ⊢
          exact iteT q
        · rw [decide_eq_false h1] at q ⊢
          refine iteF ⟨_, rfl, _, rfl, us2[p.2], _, rfl, .inr (SqT.of (s6 _ _ hy5)), rfl, flat_strs ys, _, rfl, ?_⟩
          simp only [Bool.false_eq_true, if_false]
          rw [inV_str]
          exact q
      refine ⟨D2, _, rfl, .inl ⟨SqL.of upd_same, fun l2' hl2 => ?_⟩⟩
      have s7 : Same H5 _ := s6.trans ((same_upd (o := .lst ((ns.filter fun z => decide (z ∈ xs) || decide (z ∈ ys)).map V.str)) hD2).trans (same_upd (o := .tup ((either ns xs ys).map V.str)) hl2))
      have hl7 := upd_same (H := upd H6 D2 (.lst ((ns.filter fun z => decide (z ∈ xs) || decide (z ∈ ys)).map V.str))) (a := l2') (o := .tup ((either ns xs ys).map V.str))
      change gSub _ _ _ _ _ (upd (upd H6 D2 (.lst ((ns.filter fun z => decide (z ∈ xs) || decide (z ∈ ys)).map V.str))) l2' (.tup ((either ns xs ys).map V.str))) _
      generalize upd (upd H6 D2 (.lst ((ns.filter fun z => decide (z ∈ xs) || decide (z ∈ ys)).map V.str))) l2' (.tup ((either ns xs ys).map V.str)) = H7 at s7 hl7 ⊢
      have hq7 := s7 _ _ hq5
      have s07 := s5.trans s7
      refine ⟨_, rfl, _, rfl, u, _, _, _, rfl, rfl, SqT.of (s7 _ _ hu5), a1, q, _, _, p.2, rfl, rfl, hq7, ixN_nat (by simp [ln]), ?_⟩
      have mv2 : ∀ t xs, H7 t = some (.tup xs) → (upd H7 q (.lst (((us2.map V.ref).set p.1 (.ref l1')).set p.2 (.ref l2')))) t = some (.tup xs) := fun t xs e => by rw [L2.upd_ne (ne_of e hq7 (by intro z; cases z))]; exact e
      refine ⟨_, _, _, (us2.set p.1 l1').set p.2 l2', behindP ns z p, rfl, Same.upd_new s07 hq, by rw [upd_same, List.map_set, List.map_set], ?_, l4, l3⟩
      unfold behindP
      rw [getD_of ex, getD_of ey]
      exact CutsAt.set (CutsAt.set ((hC5.same s7).mono mv2) (mv2 _ _ (s7 _ _ hl5))) (mv2 _ _ hl7)
    · rintro σ H2 ⟨v4, v5, v6, us2, z, rfl, s2, hq2, hC2, l1, l2⟩
      have e : (ts.map V.ref).length = sts.length := by rw [List.length_map]; exact hP.len
      rw [e, List.drop_of_length_le (Nat.le_refl _)] at l2
      cases l2
      exact ⟨_, rfl, k q us2 H2 hq hq2 hC2 s2⟩
end
end K34

set_option Elab.async false
set_option linter.all false
set_option maxRecDepth 100000
set_option maxHeartbeats 4000000
namespace L2
open PySem PySem.Spec PyProof.Rows
theorem pi_tupK {X : Cx} {K : PySem.W.Frag} {tg l : Expr} {tl : TE} (hK : X.K = K) (hl : PE X l tl) : PI X tg l (iTup K tl) := by
  subst hK
  exact pi_tup hl
end L2
namespace K34
open PySem PySem.Spec PyProof.Rows L2
abbrev sRight : Stmt := top 45 -- _law_right
theorem al_cuts2 {K : PySem.W.Frag} {H : Hp} {p q : Addr} {us vs : List Addr} {zss : List (List Str)} {n : Nat} (hp : SqL K H p (us.map V.ref)) (hq : SqL K H q (vs.map V.ref)) (hC : CutsAt H us zss) (hD : CutsAt H vs zss) : AlS K H (n + 1) (.ref p) (.ref q) :=
  ⟨p, q, _, _, rfl, rfl, .inl ⟨hp, hq⟩, by rw [List.length_map, List.length_map, hC.len, hD.len], fun i a b ea eb => by
    rw [List.getElem?_map] at ea eb
    obtain ⟨u, eu, rfl⟩ := Option.map_eq_some_iff.mp ea
    obtain ⟨v, ev, rfl⟩ := Option.map_eq_some_iff.mp eb
    obtain ⟨zs, ez, hu⟩ := hC.get eu
    obtain ⟨zs', ez', hv⟩ := hD.get ev
    rw [ez] at ez'
    cases ez'
    refine .inr ⟨u, v, _, _, rfl, rfl, .inr ⟨SqT.of hu, SqT.of hv⟩, rfl, fun j c d ec ed => ?_⟩
    rw [ec] at ed
    cases ed
    obtain ⟨z, _, rfl⟩ := List.mem_map.mp (List.mem_of_getElem? ec)
    exact Al.txt⟩
theorem cuts_data {K : PySem.W.Frag} {H : Hp} {us : List Addr} {zss : List (List Str)} (h : CutsAt H us zss) : Paired (TupD K H) us (zss.map dTup) := by
  induction h with
  | nil => exact .nil
  | cons r t ih => exact .cons ⟨_, _, SqT.of r, rdF_strs _, rfl⟩ ih
/-- of names, not many -/
def OfN (ns zs : List Str) : Prop := zs.length ≤ 12 ∧ ∀ z ∈ zs, z ∈ ns
theorem show_of {ns : List Str} {zss : List (List Str)} (g : GoodP ns) (h : ∀ zs ∈ zss, OfN ns zs) (l : zss.length ≤ 100) : ShowL (zss.map dTup) :=
  cuts_show (fun zs hz => ⟨Nat.le_trans (h zs hz).1 (by decide), fun z hq => repr_nm (g.nms z ((h zs hz).2 z hq))⟩) l
theorem flat_ivs (ns : List Nat) : (ivs ns).all flatV = true := List.all_eq_true.mpr fun x hx => by obtain ⟨n, _, rfl⟩ := List.mem_map.mp hx; rfl
theorem eq_ivs (ns : List Nat) : eqVs (ivs ns) (ivs ns) = true := by
  have := eqVs_int (ns.map fun (n : Nat) => (n : Int)) (ns.map fun (n : Nat) => (n : Int))
  rw [List.map_map] at this
  show eqVs (ns.map fun (n : Nat) => V.int n) (ns.map fun (n : Nat) => V.int n) = true
  exact this.trans (decide_eq_true rfl)
abbrev rIsT (K : PySem.W.Frag) (T : String) : List V → Hp → VK → Prop := fun xs H Q => ∃ x t b, xs = [x, V.ty T] ∧ TyOf K H x t ∧ PySem.W.kitOne K t (.type T) = some b ∧ Q (V.bl b) H
abbrev rAny (K : PySem.W.Frag) : List V → Hp → VK → Prop := fun xs H Q => ∃ (p : Addr) (bs : List Bool), xs = [V.ref p] ∧ SqL K H p (bs.map V.bl) ∧ Q (V.bl (bs.any id)) H
theorem rep_any (n : Nat) : (List.replicate n false).any id = false := by simp
theorem al_two {K : PySem.W.Frag} {H : Hp} {r r' h q h' q' : Addr} {n : Nat} (hr : H r = some (.tup [.ref h, .ref q])) (hr' : H r' = some (.tup [.ref h', .ref q'])) (a1 : AlS K H n (.ref h) (.ref h')) (a2 : AlS K H n (.ref q) (.ref q')) : AlS K H (n + 1) (.ref r) (.ref r') :=
  ⟨r, r', _, _, rfl, rfl, .inr ⟨SqT.of hr, SqT.of hr'⟩, rfl, fun i a b ea eb => by
    match i with
    | 0 => cases ea; cases eb; exact a1.al
    | 1 => cases ea; cases eb; exact a2.al
    | i + 2 => cases ea⟩
theorem al_prs {K : PySem.W.Frag} {H : Hp} {p q : Addr} {us vs : List Addr} {ps : List (Nat × Nat)} {n : Nat} (hp : SqL K H p (us.map V.ref)) (hq : SqL K H q (vs.map V.ref)) (hC : PrsAt H us ps) (hD : PrsAt H vs ps) : AlS K H (n + 1) (.ref p) (.ref q) :=
  ⟨p, q, _, _, rfl, rfl, .inl ⟨hp, hq⟩, by rw [List.length_map, List.length_map, hC.len, hD.len], fun i a b ea eb => by
    rw [List.getElem?_map] at ea eb
    obtain ⟨u, eu, rfl⟩ := Option.map_eq_some_iff.mp ea
    obtain ⟨v, ev, rfl⟩ := Option.map_eq_some_iff.mp eb
    obtain ⟨zs, ez, hu⟩ := hC.get eu
    obtain ⟨zs', ez', hv⟩ := hD.get ev
    rw [ez] at ez'
    cases ez'
    refine .inr ⟨u, v, _, _, rfl, rfl, .inr ⟨SqT.of hu, SqT.of hv⟩, rfl, fun j c d ec ed => ?_⟩
    rw [ec] at ed
    cases ed
    have fl : flatV c = true := by
      have := List.mem_of_getElem? ec
      simp only [List.mem_cons, List.not_mem_nil, or_false] at this
      rcases this with rfl | rfl <;> rfl
    cases n
    · exact ⟨fl, rfl⟩
    · exact .inl ⟨fl, rfl⟩⟩
/-- the defs that the law leans on -/
structure Pd (K : PySem.W.Frag) (mg : Str → Option Value) (C fP fS fA fPt fCu fB fO fR fCc fF fPs fBh fSw fUn fX fLE fAx fLd : Addr) (fdP fdS fdA fdPt fdCu fdB fdO fdR fdCc fdF fdPs fdBh fdSw fdUn fdX fdLE fdAx fdLd : FuncData) : Prop where
  x : Xd K mg C fP fS fA fPt fCu fB fO fR fCc fF fdP fdS fdA fdPt fdCu fdB fdO fdR fdCc fdF
  ps : Df K mg "pairs_of" sPairs ["many"] fPs fdPs
  bh : Df K mg "behind" sBehind ["web", "family", "i", "j"] fBh fdBh
  sw : Df K mg "swept" sSwept ["web", "family"] fSw fdSw
  un : Df K mg "uncrossed" sUnc ["web", "family"] fUn fdUn
  lx : Df K mg "_law_cross" sCross ["_law_names_here", "_law_one", "_law_other"] fX fdX
  le : Df K mg "_law_entered" sLEnt nLE fLE fdLE
  ax : Df K mg "_law_any_cross" sAnyX ["_law_names_here", "_law_family_here"] fAx fdAx
  ld : Df K mg "_law_led" sLed aLd fLd fdLd
  rp : mg "repr" = none
section
variable {P : Program} {w : World} {K : PySem.W.Frag} {mg : Str → Option Value} {base : Heap}
variable {C fP fS fA fPt fCu fB fO fR fCc fF fPs fBh fSw fUn fX fLE fAx fLd : Addr} {fdP fdS fdA fdPt fdCu fdB fdO fdR fdCc fdF fdPs fdBh fdSw fdUn fdX fdLE fdAx fdLd : FuncData}
def spRight (C : Addr) : Sp := fun vs H Q _ => ∃ (x a b l : Addr) (ns ms : List Str) (ps : List (Str × Str)) (ts us : List Addr) (zss : List (List Str)), vs = [.ref x, .ref a, .ref b, .ref l] ∧ Fam C H x l ns ms ps us zss ∧ H a = some (.lst (ns.map V.str)) ∧ srt ns = ns ∧ GoodW ns ps ∧ H b = some (.lst (ts.map V.ref)) ∧ TiesAt H ts ps ∧
  ∀ H', Same H H' → Q (.bl true) H'
abbrev aRi : List Str := ["_law_web_here", "_law_names_here", "_law_ties", "_law_family_here"]
abbrev nRi : List Str := ["_law_web_here", "_law_names_here", "_law_ties", "_law_family_here", "_law_handed", "_law_found", "_law_kept"]
theorem scRi : FnScope nRi aRi (defScope sRight) := ⟨rfl, rfl, rfl, by decide +kernel, rfl, by decide +kernel, by decide +kernel⟩
theorem ok_right {f : Addr} {fd : FuncData} (F : Fun K "_law_right" "_law_right" sRight f fd) (D : Pd K mg C fP fS fA fPt fCu fB fO fR fCc fF fPs fBh fSw fUn fX fLE fAx fLd fdP fdS fdA fdPt fdCu fdB fdO fdR fdCc fdF fdPs fdBh fdSw fdUn fdX fdLE fdAx fdLd) (T : Glb mg) : FnOk P w K mg base CX0 7 f fd aRi (spRight C) := by
  have GU : FnOk P w K mg base CX0 6 fUn fdUn ["web", "family"] (spUnc C) := ok_unc D.un.fn D.x D.ps D.bh D.sw T
  have GE : FnOk P w K mg base CX0 1 fLE fdLE nLE spLEnt := ok_lent D.le.fn T
  have GX : FnOk P w K mg base CX0 2 fAx fdAx ["_law_names_here", "_law_family_here"] spAnyX := ok_anyX D.ax.fn D.lx T D.x.cd.g.any
  have GL : FnOk P w K mg base CX0 2 fLd fdLd aLd spLed := ok_led D.ld.fn D.lx T
  refine F.ok scRi (fun vs H Q E h => ?_) (fun cdv A outer s H vs Q E hr h => ?_)
  · obtain ⟨x, a, b, l, ns, ms, ps, ts, us, zss, rfl, _⟩ := h
    rfl
  · obtain ⟨x, a, b, l, ns, ms, ps, ts, us, zss, rfl, fam, ha, rise, gw, hb, hT, k⟩ := h
    have fam0 := fam
    obtain ⟨hW, pm, g, hl, hC, all, lu⟩ := fam
    have h1 := hr.mono (j := 1) (by decide)
    have h2 := hr.mono (j := 2) (by decide)
    have gd := hr.gd
    have un := hr.units
    refine ⟨_, pss_cons (ps_set (i := 4) scRi.nd rfl (Or.inl rfl) (pe_callTy call_list_of (by rfl) T.list PyProof.Rows.boot_list (pa_cons (pv 3) pa_nil)))
      (pss_cons (ps_set (i := 5) scRi.nd rfl (Or.inl rfl) (pe_call GU hr rfl D.un.mgf D.un.fn.kp D.un.b .nil pass0 (pa_cons (pv 0) (pa_cons (pv 4) pa_nil))))
      (pss_cons (ps_if (PW.pt (pw_or (pt_not (pt_val (pe_callB (call_isinst (T := "tuple")) (by rfl) T.isinst PyProof.Rows.boot_isinstance (pa_cons (pv 5) (pa_cons (pe_bltn (v := .ty "tuple") rfl T.tuple PyProof.Rows.boot_tuple rfl) pa_nil))) (fun _ => rfl)))
          (pw_or (pt_cmpR op_ne (pe_callB call_len_seq (by rfl) T.len PySem.boot_len (pa_cons (pv 5) pa_nil)) pe_int (nomark _))
          (pw_or (pt_not (pt_val (pe_callB (call_isinst (T := "list")) (by rfl) T.isinst PyProof.Rows.boot_isinstance (pa_cons (pe_ix ix_tup (pv 5) pe_int (fun _ _ => rfl)) (pa_cons (pe_bltn (v := .ty "list") rfl T.list PyProof.Rows.boot_list rfl) pa_nil))) (fun _ => rfl)))
          (pw_or1 (pt_cmpR (op_ne_al 1 (low 1 hr)) (pv 4) (pv 3) (nomark _))))))) (pss_one (ps_ret pe_bl)) pss_nil)
      (pss_cons (ps_if (pt_val (pe_callB (call_any rfl) (by rfl) D.x.cd.g.any PyProof.Rows.boot_any (pa_cons (pe_lc ["_law_step"] [] rfl (compSc (osc := (defScope sRight).names) (N := nRi) rfl rfl (by decide +kernel)) (gk_name (by decide)) (pi_list (pe_ix ix_tup (pv 5) pe_int (fun _ _ => rfl)))
          (fun _ _ _ => pg_name (i := 0) (show (["_law_step"] : List Str).Nodup by decide +kernel) rfl (Or.inl rfl)) (fun _ _ _ => pifs_nil)
          (fun _ _ _ => pe_callB (r := rAny K) (call_any rfl) (by rfl) D.x.cd.g.any PyProof.Rows.boot_any (pa_cons (pe_lc ["_law_number"] [] rfl (compSc (osc := [(".0", .local), ("_law_step", .local), ("any", .globalImplicit)]) (N := ["_law_step"]) rfl rfl (by decide +kernel)) (gk_name (by decide)) (pi_tupK (K := K) rfl (pv 0))
            (fun _ _ _ => pg_name (i := 0) (show (["_law_number"] : List Str).Nodup by decide +kernel) rfl (Or.inl rfl)) (fun _ _ _ => pifs_nil)
            (fun _ _ _ => pe_callB (r := rIsT K "bool") (call_isinst (T := "bool")) (by rfl) T.isinst PyProof.Rows.boot_isinstance (pa_cons (pv 0) (pa_cons (pe_bltn (v := .ty "bool") rfl T.bool PyProof.Rows.boot_bool rfl) pa_nil)))) pa_nil))) pa_nil)) (fun _ => rfl)) (pss_one (ps_ret pe_bl)) pss_nil)
      (pss_cons (ps_set (i := 6) scRi.nd rfl (Or.inl rfl) (pe_tup (pa_cons (pe_callTy call_list_of (by rfl) T.list PyProof.Rows.boot_list (pa_cons (pe_ix ix_tup (pv 5) pe_int (fun _ _ => rfl)) pa_nil)) (pa_cons (pe_callTy call_list_of (by rfl) T.list PyProof.Rows.boot_list (pa_cons (pe_ix ix_tup (pv 5) pe_int (fun _ _ => rfl)) pa_nil)) pa_nil))))
      (pss_cons (ps_if (pt_cmpR op_ne (pe_callB (call_repr_lt (K := K) gd un) (by rfl) D.rp PyProof.Rows.boot_repr (pa_cons (pe_call GL h2 rfl D.ld.mgf D.ld.fn.kp D.ld.b .nil pass0 (pa_cons (pv 1) (pa_cons (pv 3) (pa_cons (pe_ix ix_tup (pv 6) pe_int (fun _ _ => rfl)) pa_nil)))) pa_nil)) (pe_callB (call_repr_lt (K := K) gd un) (by rfl) D.rp PyProof.Rows.boot_repr (pa_cons (pe_ix ix_tup (pv 5) pe_int (fun _ _ => rfl)) pa_nil)) (nomark _)) (pss_one (ps_ret pe_bl)) pss_nil)
      (pss_cons (ps_if (pt_val (pe_call GX h2 rfl D.ax.mgf D.ax.fn.kp D.ax.b .nil pass0 (pa_cons (pv 1) (pa_cons (pe_ix ix_tup (pv 6) pe_int (fun _ _ => rfl)) pa_nil))) (fun _ => rfl)) (pss_one (ps_ret pe_bl)) pss_nil)
      (pss_cons (ps_if (pt_cmpR (op_ne_flat (low 0 hr)) (pe_call GE h1 rfl D.le.mgf D.le.fn.kp D.le.b .nil pass0 (pa_cons (pv 2) (pa_cons (pe_ix ix_tup (pv 6) pe_int (fun _ _ => rfl)) pa_nil))) (pe_call GE h1 rfl D.le.mgf D.le.fn.kp D.le.b .nil pass0 (pa_cons (pv 2) (pa_cons (pv 3) pa_nil))) (nomark _)) (pss_one (ps_ret pe_bl)) pss_nil)
      (pss_cons (ps_expr (pe_bm PySem.F.plainAttrs_list PySem.F.slot_list_append PySem.F.type_list_append mt_append (pe_ix ix_tup (pv 5) pe_int (fun _ _ => rfl)) (pa_cons (pe_tup pa_nil) pa_nil)))
      (pss_cons (ps_expr (pe_bm PySem.F.plainAttrs_list PySem.F.slot_list_append PySem.F.type_list_append mt_append (pe_ix ix_tup (pv 5) pe_int (fun _ _ => rfl)) (pa_cons (pe_tup (pa_cons pe_int (pa_cons pe_int pa_nil))) pa_nil)))
      (pss_one (ps_ret (pe_and (pe_cmpR (op_eq_al 2 (low 2 hr)) (pe_call GU hr rfl D.un.mgf D.un.fn.kp D.un.b .nil pass0 (pa_cons (pv 0) (pa_cons (pv 4) pa_nil))) (pv 6) (nomark _))
        (pe_one (pe_cmpR (op_eq_al 2 (low 2 hr)) (pe_call GU hr rfl D.un.mgf D.un.fn.kp D.un.b .nil pass0 (pa_cons (pv 0) (pa_cons (pe_ix ix_tup (pv 6) pe_int (fun _ _ => rfl)) pa_nil))) (pe_tup (pa_cons (pe_ix ix_tup (pv 6) pe_int (fun _ _ => rfl)) (pa_cons (pe_lst pa_nil) pa_nil))) (nomark _))))))))))))))), ?_⟩
    have few := gw.good.few
    -- the family handed in
    refine ⟨_, rfl, l, _, rfl, .inl (SqL.of hl), fun q4 n4 => ?_⟩
    have s1 := same_upd (o := .lst (us.map V.ref)) n4
    have h41 := upd_same (H := H) (a := q4) (o := .lst (us.map V.ref))
    change tSeq _ _ _ _ (upd H q4 (.lst (us.map V.ref)))
    generalize upd H q4 (.lst (us.map V.ref)) = H1 at s1 h41 ⊢
    have fam1 : Fam C H1 x q4 ns ms ps us zss := ⟨hW.same s1, pm, g, h41, hC.same s1, all, lu⟩
    refine ⟨_, rfl, _, rfl, x, q4, ns, ms, ps, us, zss, rfl, fam1, rise, gw, fun r h q us' tq z st H2 nr hr2 hh2 hC2 hq2 hP2 nh nq nhq hU s2 => ?_⟩
    have hL := hU.leads
    obtain ⟨allz, lz, ez, sqz⟩ := leads_keeps gw rise hL all
    have s12 := s1.trans s2
    have bz : sqs z ≤ 100 * (12 * 12) := Nat.le_trans (sqs_le (m := ns.length) fun zs hz => (allz zs hz).less) (Nat.mul_le_mul (by rw [lz, ← hC.len]; exact lu) (Nat.mul_le_mul few few))
    have lst' : st.length ≤ 20000 := by omega
    have lu' : us'.length = us.length := by rw [hC2.len, lz, hC.len]
    have a0 : atI [V.ref h, V.ref q] 0 = some (.ref h) := rfl
    have a1 : atI [V.ref h, V.ref q] 1 = some (.ref q) := rfl
    refine ⟨_, rfl, _, _, true, rfl, .tup hr2, rfl, _, rfl, ?_⟩
    refine iteF ⟨_, rfl, r, _, rfl, .inr (SqT.of hr2), rfl, _, rfl, ?_⟩
    refine iteF ⟨_, rfl, r, _, _, _, rfl, rfl, SqT.of hr2, a1, _, _, true, rfl, .lst hq2, rfl, _, rfl, ?_⟩
    refine iteF ⟨_, rfl, _, rfl, al_cuts2 (SqL.of (s2 _ _ h41)) (SqL.of (s12 _ _ hl)) (hC.same s12) (hC.same s12), _, rfl, iteF ?_⟩
    -- no number of a step is a bool
    refine ⟨_, rfl, r, _, _, _, rfl, rfl, SqT.of hr2, a1, q, rfl, ⟨_, SqL.of hq2⟩, ?_⟩
    refine lc_list (K := K) (xs := tq.map V.ref) (fun i ys H3 => Same H2 H3 ∧ ys = (List.replicate i false).map V.bl) ⟨Same.refl _, rfl⟩ ?_ ?_ ?_ ?_
    · rintro i ys H3 hi ⟨_, rfl⟩
      rw [List.length_map, hP2.len] at hi
      rw [List.length_map, List.length_replicate]
      exact Nat.le_trans hi (Nat.le_trans lst' (by decide))
    · rintro i ys H3 _ ⟨s3, _⟩
      exact SqL.of (s3 _ _ hq2)
    · rintro i v ys H3 R hv ⟨s3, rfl⟩ kR
      rw [List.getElem?_map] at hv
      obtain ⟨t, et, rfl⟩ := Option.map_eq_some_iff.mp hv
      obtain ⟨p, _, ht⟩ := (hP2.same s3).get et
      simp only [tYes, gName, if_true]
      refine ⟨_, rfl, t, rfl, ⟨_, SqT.of ht⟩, ?_⟩
      refine lc_tup (K := K) (xs := [V.int (p.1 : Nat), V.int (p.2 : Nat)]) (fun j zs H4 => Same H3 H4 ∧ zs = (List.replicate j false).map V.bl) ⟨Same.refl _, rfl⟩ ?_ ?_ ?_ ?_
      · rintro j zs H4 hj ⟨_, rfl⟩
        rw [List.length_map, List.length_replicate]
        exact Nat.le_trans hj (show 2 ≤ sizeLine by decide)
      · rintro j zs H4 _ ⟨s4, _⟩
        exact SqT.of (s4 _ _ ht)
      · rintro j y zs H4 R2 hy ⟨s4, rfl⟩ kR2
        have iy : ∃ n : Int, y = .int n := by
          have := List.mem_of_getElem? hy
          simp only [List.mem_cons, List.not_mem_nil, or_false] at this
          rcases this with rfl | rfl <;> exact ⟨_, rfl⟩
        obtain ⟨n, rfl⟩ := iy
        simp only [tYes, gName, if_true]
        exact ⟨_, rfl, _, _, false, rfl, .int _, rfl, kR2 _ _ ⟨s4, by rw [List.replicate_succ']; simp⟩⟩
      · rintro zs H4 ⟨s4, rfl⟩ D0 hD0
        refine ⟨D0, List.replicate 2 false, rfl, SqL.of upd_same, ?_⟩
        rw [rep_any]
        exact kR _ _ ⟨s3.trans (s4.trans (same_upd hD0)), by rw [List.replicate_succ']; simp⟩
    rintro ys H3 ⟨s3, rfl⟩ D0 hD0
    refine ⟨D0, List.replicate (tq.map V.ref).length false, rfl, SqL.of upd_same, _, rfl, ?_⟩
    rw [rep_any]
    have s4 := s3.trans (same_upd (o := .lst ((List.replicate (tq.map V.ref).length false).map V.bl)) hD0)
    generalize upd H3 D0 (.lst ((List.replicate (tq.map V.ref).length false).map V.bl)) = H4 at s4 ⊢
    have hr4 := s4 _ _ hr2
    have hh4 := s4 _ _ hh2
    have hq4 := s4 _ _ hq2
    -- what is kept
    refine iteF ⟨_, rfl, r, _, _, _, rfl, rfl, SqT.of hr4, a0, h, _, rfl, .inl (SqL.of hh4), fun k0 nk0 => ?_⟩
    have s5 := same_upd (o := .lst (us'.map V.ref)) nk0
    have hk05 := upd_same (H := H4) (a := k0) (o := .lst (us'.map V.ref))
    generalize upd H4 k0 (.lst (us'.map V.ref)) = H5 at s5 hk05 ⊢
    refine ⟨_, rfl, r, _, _, _, rfl, rfl, SqT.of (s5 _ _ hr4), a1, q, _, rfl, .inl (SqL.of (s5 _ _ hq4)), fun k1 nk1 => ?_⟩
    have s6 := same_upd (o := .lst (tq.map V.ref)) nk1
    have hk16 := upd_same (H := H5) (a := k1) (o := .lst (tq.map V.ref))
    generalize upd H5 k1 (.lst (tq.map V.ref)) = H6 at s6 hk16 ⊢
    refine ⟨(show 2 ≤ sizeLine by decide), fun kp nkp => ?_⟩
    have s7 := same_upd (o := .tup [.ref k0, .ref k1]) nkp
    have hkp7 := upd_same (H := H6) (a := kp) (o := .tup [.ref k0, .ref k1])
    change tSeq _ _ _ _ (upd H6 kp (.tup [.ref k0, .ref k1]))
    generalize upd H6 kp (.tup [.ref k0, .ref k1]) = H7 at s7 hkp7 ⊢
    have s47 := s5.trans (s6.trans s7)
    have s27 := s4.trans s47
    have s17 := s2.trans s27
    have s07 := s1.trans s17
    have hk07 := s7 _ _ (s6 _ _ hk05)
    have hk17 := s7 _ _ hk16
    have b0 : atI [V.ref k0, V.ref k1] 0 = some (.ref k0) := rfl
    have b1 : atI [V.ref k0, V.ref k1] 1 = some (.ref k1) := rfl
    have sh : ShowL (z.map dTup) := show_of gw.good (fun zs hz => ⟨by have := (allz zs hz).less; omega, (allz zs hz).shut.ins⟩) (by rw [lz, ← hC.len]; exact lu)
    -- the steps lead there
    refine ⟨_, rfl, _, rfl, _, rfl, kp, _, _, _, rfl, rfl, SqT.of hkp7, b1, a, l, k1, ns, ps, us, tq, zss, z, st, rfl, s07 _ _ ha, rise, gw, s07 _ _ hl, hC.same s07, all, lu, hk17, hP2.same s27, hL, fun q9 u9 H8 n9 h98 hC9 s8 => ?_⟩
    have s28 := s27.trans s8
    refine ⟨q9, u9, _, rfl, SqL.of h98, cuts_data hC9, sh, _, rfl, r, _, _, _, rfl, rfl, SqT.of (s28 _ _ hr2), a0, h, us', _, rfl, SqL.of (s28 _ _ hh2), cuts_data (hC2.same s28), sh, rfl, _, rfl, ?_⟩
    refine ite2 (fun z => absurd z (by simp)) (fun _ => ?_)
    have s78 := s8
    have s08 := s07.trans s8
    -- no two cross
    refine ⟨_, rfl, _, rfl, kp, _, _, _, rfl, rfl, SqT.of (s8 _ _ hkp7), b0, a, k0, ns, us', z, rfl, s08 _ _ ha, s8 _ _ hk07, hC2.same s28, by omega, fun zs hz => by have := (allz zs hz).less; omega, no_cross gw.good.nd allz hU.ends, fun H9 s9 => ⟨_, rfl, iteF ?_⟩⟩
    have s79 := s8.trans s9
    have s09 := s07.trans s79
    have s29 := s27.trans s79
    -- each tie as often
    refine ⟨_, rfl, _, rfl, kp, _, _, _, rfl, rfl, SqT.of (s79 _ _ hkp7), b0, b, k0, ts, ps, us', z, rfl, s09 _ _ hb, hT.same s09, gw.few, s79 _ _ hk07, hC2.same s29, by omega, fun e1 HA ne1 he1 sA => ?_⟩
    have s0A := s09.trans sA
    refine ⟨_, rfl, _, rfl, b, l, ts, ps, us, zss, rfl, s0A _ _ hb, hT.same s0A, gw.few, s0A _ _ hl, hC.same s0A, by omega, fun e2 HB ne2 he2 sB => ?_⟩
    rw [ez] at he1
    refine ⟨e1, e2, _, _, rfl, rfl, .inl ⟨SqL.of (sB _ _ he1), SqL.of he2⟩, flat_ivs _, flat_ivs _, _, rfl, ?_⟩
    rw [eq_ivs]
    refine ite2 (fun z => absurd z (by simp)) (fun _ => ?_)
    have s7B := s79.trans (sA.trans sB)
    have s2B := s27.trans s7B
    have s1B := s17.trans s7B
    have hrB := s2B _ _ hr2
    have hhB := s2B _ _ hh2
    have hqB := s2B _ _ hq2
    have hkpB := s7B _ _ hkp7
    have hk0B := s7B _ _ hk07
    have hk1B := s7B _ _ hk17
    have nk0h : k0 ≠ h := fun e => by rw [e, hh4] at nk0; cases nk0
    have nk0q : k0 ≠ q := fun e => by rw [e, hq4] at nk0; cases nk0
    have nk1h : k1 ≠ h := fun e => by rw [e, s5 _ _ hh4] at nk1; cases nk1
    have nk1q : k1 ≠ q := fun e => by rw [e, s5 _ _ hq4] at nk1; cases nk1
    -- what was told is changed
    refine ⟨_, rfl, r, _, _, _, rfl, rfl, SqT.of hrB, a0, .inl ⟨rfl, _, SqL.of hhB⟩, (by decide), fun t0 nt0 => ?_⟩
    have sC := same_upd (o := .tup []) nt0
    generalize upd HB t0 (.tup []) = HC at sC ⊢
    refine ⟨h, _, _, rfl, rfl, sC _ _ hhB, by rw [List.length_map]; exact small1000 (by omega), ?_⟩
    have bD : But h HB (upd HC h (.lst (us'.map V.ref ++ [.ref t0]))) := fun c o e n => by rw [L2.upd_ne n]; exact sC c o e
    have sD : Same H1 (upd HC h (.lst (us'.map V.ref ++ [.ref t0]))) := Same.upd_new (s1B.trans sC) nh
    show tSeq _ _ _ _ (upd HC h (.lst (us'.map V.ref ++ [.ref t0])))
    generalize upd HC h (.lst (us'.map V.ref ++ [.ref t0])) = HD at bD sD ⊢
    have nrh : r ≠ h := ne_of hrB hhB (by intro z; cases z)
    have nkph : kp ≠ h := ne_of hkpB hhB (by intro z; cases z)
    have hrD := bD _ _ hrB nrh
    have hqD := bD _ _ hqB (Ne.symm nhq)
    have tupD : ∀ t xs, HB t = some (.tup xs) → HD t = some (.tup xs) := fun t xs e => bD _ _ e (ne_of e hhB (by intro z; cases z))
    refine ⟨_, rfl, r, _, _, _, rfl, rfl, SqT.of hrD, a1, .inl ⟨rfl, _, SqL.of hqD⟩, (show 2 ≤ sizeLine by decide), fun t1 nt1 => ?_⟩
    have sE := same_upd (o := .tup [.int 0, .int 0]) nt1
    generalize upd HD t1 (.tup [.int 0, .int 0]) = HE at sE ⊢
    refine ⟨q, _, _, rfl, rfl, sE _ _ hqD, by rw [List.length_map, hP2.len]; exact Nat.lt_of_le_of_lt lst' (by decide), ?_⟩
    have bF : But q HD (upd HE q (.lst (tq.map V.ref ++ [.ref t1]))) := fun c o e n => by rw [L2.upd_ne n]; exact sE c o e
    have sF : Same H1 (upd HE q (.lst (tq.map V.ref ++ [.ref t1]))) := Same.upd_new (sD.trans sE) nq
    show tSeq _ _ _ _ (upd HE q (.lst (tq.map V.ref ++ [.ref t1])))
    generalize upd HE q (.lst (tq.map V.ref ++ [.ref t1])) = HF at bF sF ⊢
    have tupF : ∀ t xs, HB t = some (.tup xs) → HF t = some (.tup xs) := fun t xs e => bF _ _ (tupD _ _ e) (ne_of (tupD _ _ e) hqD (by intro z; cases z))
    have hkpF := tupF _ _ hkpB
    have hk0F := bF _ _ (bD _ _ hk0B nk0h) nk0q
    have hk1F := bF _ _ (bD _ _ hk1B nk1h) nk1q
    have hCF : CutsAt HF us' z := (hC2.same s2B).mono tupF
    have hPF : PrsAt HF tq st := (hP2.same s2B).mono tupF
    -- told again
    refine ⟨_, rfl, _, rfl, x, q4, ns, ms, ps, us, zss, rfl, fam1.same sF, rise, gw, fun r2 h2 q2 u2 t2 z2 st2 HG nr2 hr2G hh2G hC2G hq2G hP2G nh2 nq2 _ hU2 sG => ?_⟩
    obtain ⟨e1', e2'⟩ := hU2.det hU
    subst e1' e2'
    refine ⟨_, rfl, al_two hr2G (sG _ _ hkpF) (al_cuts2 (SqL.of hh2G) (SqL.of (sG _ _ hk0F)) hC2G (hCF.same sG)) (al_prs (SqL.of hq2G) (SqL.of (sG _ _ hk1F)) hP2G (hPF.same sG)), _, rfl, iteT ?_⟩
    have sFG := sF.trans sG
    have famG : Fam C HG x k0 ns ms ps us' z2 := ⟨(hW.same s1).same sFG, pm, g, sG _ _ hk0F, hCF.same sG, allz, by omega⟩
    refine ⟨_, rfl, _, rfl, kp, _, _, _, rfl, rfl, SqT.of (sG _ _ hkpF), b0, x, k0, ns, ms, ps, us', z2, rfl, famG, rise, gw, fun r3 h3 q3 u3 t3 z3 st3 HH nr3 hr3 hh3 hC3 hq3 hP3 nh3 nq3 _ hU3 sH => ?_⟩
    obtain ⟨e3, e4⟩ := hU3.det (Unc.again hU.ends)
    subst e3 e4
    have e5 : t3 = [] := List.length_eq_zero_iff.mp (by rw [hP3.len]; rfl)
    subst e5
    have hkpH := sH _ _ (sG _ _ hkpF)
    refine ⟨_, rfl, kp, _, _, _, rfl, rfl, SqT.of hkpH, b0, (by decide), fun en nen => ?_⟩
    have sI := same_upd (o := .lst []) nen
    have henI := upd_same (H := HH) (a := en) (o := .lst [])
    generalize upd HH en (.lst []) = HI at sI henI ⊢
    refine ⟨(show 2 ≤ sizeLine by decide), fun tp ntp => ?_⟩
    have sJ := same_upd (o := .tup [.ref k0, .ref en]) ntp
    have htpJ := upd_same (H := HI) (a := tp) (o := .tup [.ref k0, .ref en])
    generalize upd HI tp (.tup [.ref k0, .ref en]) = HJ at sJ htpJ ⊢
    have sGJ := sH.trans (sI.trans sJ)
    have sHJ := sI.trans sJ
    refine ⟨al_two (sHJ _ _ hr3) htpJ (al_cuts2 (SqL.of (sHJ _ _ hh3)) (SqL.of (sGJ _ _ (sG _ _ hk0F))) (hC3.same sHJ) ((hCF.same sG).same sGJ)) (al_prs (us := []) (vs := []) (SqL.of (sHJ _ _ hq3)) (SqL.of (sJ _ _ henI)) .nil .nil), k _ (s1.trans (sFG.trans sGJ))⟩
end
end K34

set_option Elab.async false
set_option linter.all false
set_option maxRecDepth 100000
set_option maxHeartbeats 4000000
namespace K34
open PySem PySem.Spec PyProof.Rows L2
/-- the defs that draw -/
structure Dw (K : PySem.W.Frag) (mg : Str → Option Value) (fPo fDg fNa fSh fWb fCl fCt fFa : Addr) (fdPo fdDg fdNa fdSh fdWb fdCl fdCt fdFa : FuncData) : Prop where
  po : Df K mg "_law_pot" sPot ["_law_script", "_law_k"] fPo fdPo
  dg : Df K mg "_law_digit" sDigit ["_law_pot_here", "_law_many"] fDg fdDg
  na : Df K mg "_law_names" sNames ["_law_pot_here", "_law_many"] fNa fdNa
  sh : Df K mg "_law_shuffled" sShuf ["_law_pot_here", "_law_things"] fSh fdSh
  wb : Df K mg "_law_web" sLWeb ["_law_pot_here", "_law_names_here", "_law_most"] fWb fdWb
  cl : Df K mg "_law_closed" sClosed ["_law_ties", "_law_some"] fCl fdCl
  ct : Df K mg "_law_cut" sCut ["_law_pot_here", "_law_names_here", "_law_ties"] fCt fdCt
  fa : Df K mg "_law_family" sFam ["_law_pot_here", "_law_names_here", "_law_ties", "_law_most"] fFa fdFa
  ab : mg "abs" = none
theorem sub_cuts {H : Hp} {ns : List Str} {ps : List (Str × Str)} : ∀ {vs : List V}, (∀ y ∈ vs, ∃ u zs, y = V.ref u ∧ H u = some (.tup (zs.map V.str)) ∧ IsC ns ps zs) → ∃ (us : List Addr) (zss : List (List Str)), vs = us.map V.ref ∧ CutsAt H us zss ∧ ∀ zs ∈ zss, IsC ns ps zs
  | [], _ => ⟨[], [], rfl, .nil, fun _ z => nomatch z⟩
  | v :: vs, h => by
    obtain ⟨u, zs, rfl, hu, ic⟩ := h v List.mem_cons_self
    obtain ⟨us, zss, rfl, hC, all⟩ := sub_cuts fun y hy => h y (List.mem_cons_of_mem _ hy)
    exact ⟨u :: us, zs :: zss, rfl, .cons hu hC, fun z hz => (List.mem_cons.mp hz).elim (fun e => e ▸ ic) (all z)⟩
theorem CutsAt.mem {H : Hp} {ns : List Str} {ps : List (Str × Str)} {us : List Addr} {zss : List (List Str)} (hC : CutsAt H us zss) (all : ∀ zs ∈ zss, IsC ns ps zs) {y : V} (hy : y ∈ us.map V.ref) : ∃ u zs, y = V.ref u ∧ H u = some (.tup (zs.map V.str)) ∧ IsC ns ps zs := by
  obtain ⟨u, hu, rfl⟩ := List.mem_map.mp hy
  obtain ⟨i, hi, e⟩ := List.getElem_of_mem hu
  obtain ⟨zs, ez, h⟩ := hC.get (show us[i]? = some u by rw [← e]; simp [hi])
  exact ⟨u, zs, rfl, h, all zs (List.mem_of_getElem? ez)⟩
theorem sIx30 (n d : Nat) : HT.sIx n d (some 30) ≤ 30 := by
  show (if (30 : Int) < 0 then ((30 : Int) + (n : Int)).toNat else min (30 : Int).toNat n) ≤ 30
  rw [if_neg (by decide)]
  exact Nat.min_le_left _ _
section
variable {P : Program} {w : World} {K : PySem.W.Frag} {mg : Str → Option Value} {base : Heap}
variable {C fP fS fA fPt fCu fB fO fR fCc fF fPs fBh fSw fUn fX fLE fAx fLd : Addr} {fdP fdS fdA fdPt fdCu fdB fdO fdR fdCc fdF fdPs fdBh fdSw fdUn fdX fdLE fdAx fdLd : FuncData}
def spLaw (K : PySem.W.Frag) : Sp := fun vs H Q _ => ∃ (a : Addr) (ns : List Int), vs = [.ref a] ∧ SqL K H a (ns.map V.int) ∧ ns.length ≤ 63 ∧ ∀ H', Q (.bl true) H'
abbrev nL : List Str := ["_law_script", "_law_k", "_law_pot_here", "_law_names_here", "_law_ties", "_law_web_here", "_law_family_here"]
theorem scL : FnScope nL ["_law_script"] (defScope sLaw) := ⟨rfl, rfl, rfl, by decide +kernel, rfl, by decide +kernel, by decide +kernel⟩
theorem ok_law {f fPo fDg fNa fSh fWb fCl fCt fFa fN fTi f1 f2 fIn fRi : Addr} {fd fdPo fdDg fdNa fdSh fdWb fdCl fdCt fdFa fdN fdTi fd1 fd2 fdIn fdRi : FuncData} (F : Fun K "law" "law" sLaw f fd)
    (B : Dw K mg fPo fDg fNa fSh fWb fCl fCt fFa fdPo fdDg fdNa fdSh fdWb fdCl fdCt fdFa) (DN : Df K mg "is_name" sName ["thing"] fN fdN) (DT : Df K mg "is_tie" sTie ["places", "thing"] fTi fdTi) (D1 : Df K mg "check_places" sChkP ["places"] f1 fd1) (D2 : Df K mg "check_ties" sChkT ["places", "ties"] f2 fd2)
    (FI : Fun K "__init__" "Web.__init__" sInit fIn fdIn) (MkW : Mk K C fIn) (bI : Binds K fdIn ["self", "places", "ties"] []) (D : Pd K mg C fP fS fA fPt fCu fB fO fR fCc fF fPs fBh fSw fUn fX fLE fAx fLd fdP fdS fdA fdPt fdCu fdB fdO fdR fdCc fdF fdPs fdBh fdSw fdUn fdX fdLE fdAx fdLd)
    (DR : Df K mg "_law_right" sRight aRi fRi fdRi) (T : Glb mg) : FnOk P w K mg base CX0 8 f fd ["_law_script"] (spLaw K) := by
  have GPo : FnOk P w K mg base CX0 1 fPo fdPo ["_law_script", "_law_k"] (spPot (K := K)) := ok_pot B.po.fn T B.ab
  have GDg : FnOk P w K mg base CX0 1 fDg fdDg ["_law_pot_here", "_law_many"] spDg := ok_digit B.dg.fn T
  have GNa : FnOk P w K mg base CX0 2 fNa fdNa ["_law_pot_here", "_law_many"] spNames := ok_names B.na.fn B.dg T
  have GSh : FnOk P w K mg base CX0 2 fSh fdSh ["_law_pot_here", "_law_things"] spShuf := ok_shuf B.sh.fn B.dg T
  have GWb : FnOk P w K mg base CX0 3 fWb fdWb ["_law_pot_here", "_law_names_here", "_law_most"] spLWeb := ok_lweb B.wb.fn B.dg B.sh T
  have GFa : FnOk P w K mg base CX0 3 fFa fdFa ["_law_pot_here", "_law_names_here", "_law_ties", "_law_most"] spFam := ok_fam B.fa.fn B.dg B.cl B.ct T
  have GI : FnOk P w K mg base CX0 4 fIn fdIn ["self", "places", "ties"] (spInit C) := ok_init FI D.x.cd.m.wc DN D.x.cd.a DT D1 D2 T
  have GR : FnOk P w K mg base CX0 7 fRi fdRi aRi (spRight C) := ok_right DR.fn D T
  refine F.ok scL (fun vs H Q E h => ?_) (fun cdv A outer s H vs Q E hr h => ?_)
  · obtain ⟨a, ns, rfl, _⟩ := h
    rfl
  · obtain ⟨a, ns, rfl, hS, hlen, k⟩ := h
    have hr1 := hr.mono (j := 1) (by decide)
    have hr2 := hr.mono (j := 2) (by decide)
    have hr3 := hr.mono (j := 3) (by decide)
    have hr5 := hr.mono (j := 5) (by decide)
    refine ⟨_, pss_cons (ps_for PassesOwn.never rfl (pi_range1 rfl T.range (pa_cons (pe_callB (call_max2 rfl) (by rfl) T.max PyProof.Rows.boot_max (pa_cons pe_int (pa_cons (pe_callB (call_min2 rfl) (by rfl) T.min PyProof.Rows.boot_min (pa_cons pe_int (pa_cons (pe_callB call_len_seq (by rfl) T.len PySem.boot_len (pa_cons (pv 0) pa_nil)) pa_nil))) pa_nil))) pa_nil)) (pg_name (i := 1) scL.nd rfl (Or.inl rfl))
        (pss_cons (ps_set (i := 2) scL.nd rfl (Or.inl rfl) (pe_call GPo hr1 rfl B.po.mgf B.po.fn.kp B.po.b .nil pass0 (pa_cons (pv 0) (pa_cons (pv 1) pa_nil))))
        (pss_cons (ps_set (i := 3) scL.nd rfl (Or.inl rfl) (pe_call GNa hr2 rfl B.na.mgf B.na.fn.kp B.na.b .nil pass0 (pa_cons (pv 2) (pa_cons (pe_op op_add pe_int (pe_call GDg hr1 rfl B.dg.mgf B.dg.fn.kp B.dg.b .nil pass0 (pa_cons (pv 2) (pa_cons pe_int pa_nil)))) pa_nil))))
        (pss_cons (ps_set (i := 4) scL.nd rfl (Or.inl rfl) (pe_call GWb hr3 rfl B.wb.mgf B.wb.fn.kp B.wb.b .nil pass0 (pa_cons (pv 2) (pa_cons (pv 3) (pa_cons pe_int pa_nil)))))
        (pss_cons (ps_set (i := 5) scL.nd rfl (Or.inl rfl) (pe_make MkW GI hr5 rfl D.x.cd.m.wc.mgC bI .nil pass0 (pa_cons (pe_call GSh hr2 rfl B.sh.mgf B.sh.fn.kp B.sh.b .nil pass0 (pa_cons (pv 2) (pa_cons (pv 3) pa_nil))) (pa_cons (pe_callTy call_list_of (by rfl) T.list PyProof.Rows.boot_list (pa_cons (pv 4) pa_nil)) pa_nil))))
        (pss_cons (ps_set (i := 6) scL.nd rfl (Or.inl rfl) (pe_call GFa hr3 rfl B.fa.mgf B.fa.fn.kp B.fa.b .nil pass0 (pa_cons (pv 2) (pa_cons (pv 3) (pa_cons (pv 4) (pa_cons pe_int pa_nil))))))
        (pss_cons (ps_if (PW.pt (pw_and (pt_cmpR op_lt (pe_callB call_len_seq (by rfl) T.len PySem.boot_len (pa_cons (pv 3) pa_nil)) pe_int (nomark _)) (pw_and1 (pt_cmpR op_eq (pe_call GDg hr1 rfl B.dg.mgf B.dg.fn.kp B.dg.b .nil pass0 (pa_cons (pv 2) (pa_cons pe_int pa_nil))) pe_int (nomark _)))))
          (pss_one (ps_set (i := 6) scL.nd rfl (Or.inl rfl) (pe_slice sl_list (pe_op op_rep (pv 6) pe_int) po_none (po_some pe_int)))) pss_nil)
        (pss_one (ps_if (pt_not (pt_val (pe_call GR hr rfl DR.mgf DR.fn.kp DR.b .nil pass0 (pa_cons (pv 5) (pa_cons (pv 3) (pa_cons (pv 4) (pa_cons (pv 6) pa_nil))))) (fun _ => rfl))) (pss_one (ps_ret pe_bl)) pss_nil)))))))))
      (pss_one (ps_ret pe_bl)), ?_⟩
    refine ⟨_, rfl, a, _, rfl, .inl hS, _, _, rfl, _, _, rfl, _, rfl, ?_, ?_, ?_⟩
    · rw [List.length_map]; split <;> (try split) <;> omega
    · rw [List.length_map]; split <;> (try split) <;> omega
    refine for_range (fun i σ H1 => (∃ v1 v2 v3 v4 v5 v6, σ = [some (V.ref a), v1, v2, v3, v4, v5, v6]) ∧ Same H H1) ⟨⟨_, _, _, _, _, _, rfl⟩, Same.refl _⟩ ?_ ?_
    · rintro i σ H1 hi ⟨⟨v1, v2, v3, v4, v5, v6, rfl⟩, s1⟩
      refine ⟨_, rfl, _, rfl, a, ns, 0 + i, by simp, s1.seq hS, hlen, fun p H2 np row2 s12 => ?_⟩
      refine ⟨_, rfl, _, rfl, p, 12, rfl, row2, by decide, by decide, fun d H3 d0 d1 row3 b3 => ?_⟩
      refine ⟨_, _, rfl, rfl, p, _, rfl, by omega, by omega, row3, fun q zs H4 gp rise nq hq row4 b4 => ?_⟩
      have nqp : q ≠ p := fun e => by rw [e] at nq; obtain ⟨x, y, z⟩ := row3; rw [z] at nq; cases nq
      refine ⟨_, rfl, _, rfl, p, q, zs, 30, rfl, by decide, row4, hq, gp, fun b ps ts H5 nb hb hT gw row5 b5 => ?_⟩
      have nbp : b ≠ p := fun e => by rw [e] at nb; obtain ⟨x, y, z⟩ := row4; rw [z] at nb; cases nb
      have hq5 := b5 _ _ hq nqp
      refine ⟨_, rfl, _, rfl, p, q, _, rfl, row5, hq5, (by rw [List.length_map]; have := gp.few; omega), fun q2 ys H6 pm nq2 hq2 row6 b6 => ?_⟩
      obtain ⟨ms, pms, rfl⟩ := perm_strs pm
      have nq2p : q2 ≠ p := fun e => by rw [e] at nq2; obtain ⟨x, y, z⟩ := row5; rw [z] at nq2; cases nq2
      have hq6 := b6 _ _ hq5 nqp
      have hb6 := b6 _ _ hb nbp
      have hT6 : TiesAt H6 ts ps := hT.but b6 (fun xs z => by obtain ⟨x, e⟩ := row5.lst; rw [e] at z; cases z)
      have gm : GoodW ms ps := ⟨gp.perm pms, fun r hr => ⟨pms.mem_iff.mpr (gw.ins r hr).1, pms.mem_iff.mpr (gw.ins r hr).2⟩, gw.few⟩
      refine ⟨_, rfl, b, _, rfl, .inl (SqL.of hb6), fun lb2 hlb2 => ?_⟩
      have s7 := same_upd (o := .lst (ts.map V.ref)) hlb2
      have h7 := upd_same (H := H6) (a := lb2) (o := .lst (ts.map V.ref))
      generalize upd H6 lb2 (.lst (ts.map V.ref)) = H7 at s7 h7 ⊢
      have M7 : Lists H7 q2 lb2 ms ps ts := ⟨s7 _ _ hq2, h7, hT6.same s7, gm.good, gm.ins, gm.few⟩
      intro x dx nx ndx nex
      have sx : Same H7 (upd (upd H7 dx (.own x)) x (.ins C dx [])) := Same.upd_new (same_upd ndx) nx
      refine ⟨x, q2, lb2, ms, ps, ts, rfl, ⟨dx, upd_same⟩, M7.same sx, fun H8 W8 b8 => ⟨rfl, ?_⟩⟩
      have s78 : Same H7 H8 := Same.but sx b8 nx
      have s68 := s7.trans s78
      have row8 := row6.same s68
      refine ⟨_, rfl, _, rfl, _, rfl, p, q, b, zs, ts, ps, 8, rfl, by decide, row8, nqp, nbp, s68 _ _ hq6, s68 _ _ hb6, hT6.same s68, gw, fun l us zss H9 nl hl hC all lu row9 b9 => ?_⟩
      have W9 : WebObj C H9 x ms ps := by obtain ⟨ls, e⟩ := row8.lst; exact W8.but b9 e
      have hq9 := b9 _ _ (s68 _ _ hq6) nqp
      have hb9 := b9 _ _ (s68 _ _ hb6) nbp
      have hT9 : TiesAt H9 ts ps := (hT6.same s68).but b9 (fun xs z => by obtain ⟨x, e⟩ := row8.lst; rw [e] at z; cases z)
      have np' : H p = none := s1.free np
      have s09 : Same H H9 := by
        have e1 : Same H H2 := s1.trans s12
        exact Same.but (Same.but (Same.but (Same.but (Same.but e1 b3 np') b4 np') b5 np') b6 np' |>.trans s68) b9 np'
      have F9 : Fam C H9 x l zs ms ps us zss := ⟨W9, pms, gm, hl, hC, all, by omega⟩
      refine ⟨_, rfl, q, _, rfl, .inl (SqL.of hq9), _, _, rfl, rfl, _, rfl, ?_⟩
      refine ite2 (fun _ => ?_) (fun _ => ?_)
      rotate_left
      · exact ⟨_, rfl, _, rfl, _, rfl, _, rfl, x, q, b, l, zs, ms, ps, ts, us, zss, rfl, F9, hq9, rise, gw, hb9, hT9, fun HA sA => ⟨_, rfl, iteF ⟨⟨_, _, _, _, _, _, rfl⟩, s09.trans sA⟩⟩⟩
      refine ⟨_, rfl, p, _, rfl, row9, by decide, by decide, fun d6 HA _ _ rowA bA => ?_⟩
      have nlp : l ≠ p := fun e => by rw [e] at hl; obtain ⟨x, y, z⟩ := row9; rw [z] at hl; cases us <;> cases hl
      have hlA := bA _ _ hl nlp
      have hCA := hC.but bA row9
      have FA : Fam C HA x l zs ms ps us zss := ⟨by obtain ⟨ls, e⟩ := row9.lst; exact W9.but bA e, pms, gm, hlA, hCA, all, by omega⟩
      have hqA := bA _ _ hq9 nqp
      have hbA := bA _ _ hb9 nbp
      have hTA : TiesAt HA ts ps := hT9.but bA (fun xs z => by obtain ⟨x, e⟩ := row9.lst; rw [e] at z; cases z)
      have s0A : Same H HA := Same.but s09 bA np'
      refine ⟨rfl, _, rfl, ?_⟩
      refine ite2 (fun _ => ?_) (fun _ => ?_)
      rotate_left
      · exact ⟨_, rfl, _, rfl, _, rfl, _, rfl, x, q, b, l, zs, ms, ps, ts, us, zss, rfl, FA, hqA, rise, gw, hbA, hTA, fun HB sB => ⟨_, rfl, iteF ⟨⟨_, _, _, _, _, _, rfl⟩, s0A.trans sB⟩⟩⟩
      refine ⟨_, rfl, l, 7, _, rfl, rfl, hlA, by decide, by decide, ?_, fun lr hlr => ?_⟩
      · rw [List.length_map]
        have h8 : us.length * 7 ≤ 8 * 7 := Nat.mul_le_mul_right _ lu
        exact Nat.le_trans h8 (by decide)
      have sr := same_upd (o := .lst (List.replicate (7 : Int).toNat (us.map V.ref)).flatten) hlr
      have hr' := upd_same (H := HA) (a := lr) (o := .lst (List.replicate (7 : Int).toNat (us.map V.ref)).flatten)
      generalize upd HA lr (.lst (List.replicate (7 : Int).toNat (us.map V.ref)).flatten) = HB at sr hr' ⊢
      refine ⟨_, rfl, lr, _, rfl, SqL.of hr', fun ls hls => ?_⟩
      have ss := same_upd (o := .lst (cutV (List.replicate (7 : Int).toNat (us.map V.ref)).flatten none (some 30))) hls
      have hs' := upd_same (H := HB) (a := ls) (o := .lst (cutV (List.replicate (7 : Int).toNat (us.map V.ref)).flatten none (some 30)))
      obtain ⟨us', zss', eu, hC', all'⟩ := sub_cuts (H := HA) (ns := zs) (ps := ps) (vs := cutV (List.replicate (7 : Int).toNat (us.map V.ref)).flatten none (some 30)) fun y hy => by
        have h1 := List.mem_of_mem_drop (List.mem_of_mem_take hy)
        obtain ⟨lst, hl1, hl2⟩ := List.mem_flatten.mp h1
        rw [(List.mem_replicate.mp hl1).2] at hl2
        exact hCA.mem all hl2
      have l30 : us'.length ≤ 30 := by
        have e : us'.length = (cutV (List.replicate (7 : Int).toNat (us.map V.ref)).flatten none (some 30)).length := by rw [eu, List.length_map]
        rw [e]
        unfold cutV
        rw [List.length_take]
        refine Nat.le_trans (Nat.min_le_left _ _) (Nat.le_trans (Nat.sub_le _ _) ?_)
        exact sIx30 _ _
      rw [eu] at hs' ss ⊢
      have s3 := sr.trans ss
      generalize upd HB ls (.lst (us'.map V.ref)) = HC at hs' ss s3 ⊢
      obtain ⟨wA, _, _, _, _, _, _⟩ := FA
      exact ⟨_, rfl, _, rfl, _, rfl, _, rfl, x, q, b, ls, zs, ms, ps, ts, us', zss', rfl, ⟨wA.same s3, pms, gm, hs', hC'.same s3, all', by omega⟩, s3 _ _ hqA, rise, gw, s3 _ _ hbA, hTA.same s3, fun HD sD => ⟨_, rfl, iteF ⟨⟨_, _, _, _, _, _, rfl⟩, s0A.trans (s3.trans sD)⟩⟩⟩
    · rintro σ H1 ⟨⟨v1, v2, v3, v4, v5, v6, rfl⟩, s1⟩
      exact k _
end
end K34

set_option Elab.async false
set_option linter.all false
set_option maxRecDepth 100000
set_option maxHeartbeats 4000000
namespace K34
open PySem PySem.Spec PyProof.Rows L2
theorem all_mk {l : PySem.W.OpenLaw} {w : World} {K : PySem.W.Frag} {h : Heap} {mg : Str → Option Value} {fa : Addr} {C : Addr} {f1 : Addr} {od1 an1 : Option Addr} {sl1 : Array (Option Value)} {oc1 kV1 dc1 pm1 cd1 ct1 : Value} {f2 : Addr} {od2 an2 : Option Addr} {sl2 : Array (Option Value)} {oc2 kV2 dc2 pm2 cd2 ct2 : Value} {f3 : Addr} {od3 an3 : Option Addr} {sl3 : Array (Option Value)} {oc3 kV3 dc3 pm3 cd3 ct3 : Value} {f4 : Addr} {od4 an4 : Option Addr} {sl4 : Array (Option Value)} {oc4 kV4 dc4 pm4 cd4 ct4 : Value} {f5 : Addr} {od5 an5 : Option Addr} {sl5 : Array (Option Value)} {oc5 kV5 dc5 pm5 cd5 ct5 : Value} {f6 : Addr} {od6 an6 : Option Addr} {sl6 : Array (Option Value)} {oc6 kV6 dc6 pm6 cd6 ct6 : Value} {f7 : Addr} {od7 an7 : Option Addr} {sl7 : Array (Option Value)} {oc7 kV7 dc7 pm7 cd7 ct7 : Value} {f8 : Addr} {od8 an8 : Option Addr} {sl8 : Array (Option Value)} {oc8 kV8 dc8 pm8 cd8 ct8 : Value} {f9 : Addr} {od9 an9 : Option Addr} {sl9 : Array (Option Value)} {oc9 kV9 dc9 pm9 cd9 ct9 : Value} {f10 : Addr} {od10 an10 : Option Addr} {sl10 : Array (Option Value)} {oc10 kV10 dc10 pm10 cd10 ct10 : Value} {f11 : Addr} {od11 an11 : Option Addr} {sl11 : Array (Option Value)} {oc11 kV11 dc11 pm11 cd11 ct11 : Value} {f12 : Addr} {od12 an12 : Option Addr} {sl12 : Array (Option Value)} {oc12 kV12 dc12 pm12 cd12 ct12 : Value} {f13 : Addr} {od13 an13 : Option Addr} {sl13 : Array (Option Value)} {oc13 kV13 dc13 pm13 cd13 ct13 : Value} {f14 : Addr} {od14 an14 : Option Addr} {sl14 : Array (Option Value)} {oc14 kV14 dc14 pm14 cd14 ct14 : Value} {f15 : Addr} {od15 an15 : Option Addr} {sl15 : Array (Option Value)} {oc15 kV15 dc15 pm15 cd15 ct15 : Value} {f16 : Addr} {od16 an16 : Option Addr} {sl16 : Array (Option Value)} {oc16 kV16 dc16 pm16 cd16 ct16 : Value} {f17 : Addr} {od17 an17 : Option Addr} {sl17 : Array (Option Value)} {oc17 kV17 dc17 pm17 cd17 ct17 : Value} {f18 : Addr} {od18 an18 : Option Addr} {sl18 : Array (Option Value)} {oc18 kV18 dc18 pm18 cd18 ct18 : Value} {f19 : Addr} {od19 an19 : Option Addr} {sl19 : Array (Option Value)} {oc19 kV19 dc19 pm19 cd19 ct19 : Value} {f20 : Addr} {od20 an20 : Option Addr} {sl20 : Array (Option Value)} {oc20 kV20 dc20 pm20 cd20 ct20 : Value} {f21 : Addr} {od21 an21 : Option Addr} {sl21 : Array (Option Value)} {oc21 kV21 dc21 pm21 cd21 ct21 : Value} {f22 : Addr} {od22 an22 : Option Addr} {sl22 : Array (Option Value)} {oc22 kV22 dc22 pm22 cd22 ct22 : Value} {f23 : Addr} {od23 an23 : Option Addr} {sl23 : Array (Option Value)} {oc23 kV23 dc23 pm23 cd23 ct23 : Value} {f24 : Addr} {od24 an24 : Option Addr} {sl24 : Array (Option Value)} {oc24 kV24 dc24 pm24 cd24 ct24 : Value} {f25 : Addr} {od25 an25 : Option Addr} {sl25 : Array (Option Value)} {oc25 kV25 dc25 pm25 cd25 ct25 : Value} {f26 : Addr} {od26 an26 : Option Addr} {sl26 : Array (Option Value)} {oc26 kV26 dc26 pm26 cd26 ct26 : Value} {f27 : Addr} {od27 an27 : Option Addr} {sl27 : Array (Option Value)} {oc27 kV27 dc27 pm27 cd27 ct27 : Value} {f28 : Addr} {od28 an28 : Option Addr} {sl28 : Array (Option Value)} {oc28 kV28 dc28 pm28 cd28 ct28 : Value} {f29 : Addr} {od29 an29 : Option Addr} {sl29 : Array (Option Value)} {oc29 kV29 dc29 pm29 cd29 ct29 : Value} {f30 : Addr} {od30 an30 : Option Addr} {sl30 : Array (Option Value)} {oc30 kV30 dc30 pm30 cd30 ct30 : Value} {f31 : Addr} {od31 an31 : Option Addr} {sl31 : Array (Option Value)} {oc31 kV31 dc31 pm31 cd31 ct31 : Value} {f32 : Addr} {od32 an32 : Option Addr} {sl32 : Array (Option Value)} {oc32 kV32 dc32 pm32 cd32 ct32 : Value} {f33 : Addr} {od33 an33 : Option Addr} {sl33 : Array (Option Value)} {oc33 kV33 dc33 pm33 cd33 ct33 : Value} {t_LONGEST : Tok} {t_MOST_PLACES : Tok} {t_MOST_TIES : Tok} (X : K.In h) (G : h.Ns mainGlobals mg) (hfa : mg "law" = some (.ref fa))
    (aC : PySem.W.nsIn K mainGlobals "Web" = some (some (.ref C)))
    (a1 : PySem.W.findIn K (.ref C) "__init__" = some (some (.ref f1)))
    (i1 : PySem.W.isFn K (.ref f1) = true)
    (l1 : K.lookup f1 = some ⟨oc1, od1, .func (PySem.W.fnOf "__init__" "Web.__init__" (defArgs sInit) (defBody sInit) (defScope sInit) .none kV1 dc1 pm1 an1 cd1 ct1), sl1⟩)
    (c1 : PySem.W.codeIn K cd1 "Web.__init__" = true)
    (k1 : PySem.W.keepIn K (.ref f1) = true)
    (a2 : PySem.W.findIn K (.ref C) "places" = some (some (.ref f2)))
    (i2 : PySem.W.isFn K (.ref f2) = true)
    (l2 : K.lookup f2 = some ⟨oc2, od2, .func (PySem.W.fnOf "places" "Web.places" (defArgs sPlaces) (defBody sPlaces) (defScope sPlaces) .none kV2 dc2 pm2 an2 cd2 ct2), sl2⟩)
    (c2 : PySem.W.codeIn K cd2 "Web.places" = true)
    (k2 : PySem.W.keepIn K (.ref f2) = true)
    (a3 : PySem.W.findIn K (.ref C) "ties" = some (some (.ref f3)))
    (i3 : PySem.W.isFn K (.ref f3) = true)
    (l3 : K.lookup f3 = some ⟨oc3, od3, .func (PySem.W.fnOf "ties" "Web.ties" (defArgs sTies) (defBody sTies) (defScope sTies) .none kV3 dc3 pm3 an3 cd3 ct3), sl3⟩)
    (c3 : PySem.W.codeIn K cd3 "Web.ties" = true)
    (k3 : PySem.W.keepIn K (.ref f3) = true)
    (pg : PySem.W.plainGet K C Str.empty = true)
    (hd : PySem.W.hasDictIn K C = true)
    (po : PySem.W.plainOver K C = true)
    (sa : PySem.W.findIn K (.ref C) "__setattr__" = some (some (.builtin "object.__setattr__")))
    (mk : PySem.W.makesIn K C = true)
    (kc : PySem.W.keepIn K (.ref C) = true)
    (nA0 : PySem.W.findIn K (.ref C) "kept_places" = some none)
    (nA1 : PySem.W.findIn K (.ref C) "kept_ties" = some none)
    (a4 : PySem.W.nsIn K mainGlobals "is_name" = some (some (.ref f4)))
    (l4 : K.lookup f4 = some ⟨oc4, od4, .func (PySem.W.fnOf "is_name" "is_name" (defArgs sName) (defBody sName) (defScope sName) .none kV4 dc4 pm4 an4 cd4 ct4), sl4⟩)
    (c4 : PySem.W.codeIn K cd4 "is_name" = true)
    (k4 : PySem.W.keepIn K (.ref f4) = true)
    (a5 : PySem.W.nsIn K mainGlobals "check_places" = some (some (.ref f5)))
    (l5 : K.lookup f5 = some ⟨oc5, od5, .func (PySem.W.fnOf "check_places" "check_places" (defArgs sChkP) (defBody sChkP) (defScope sChkP) .none kV5 dc5 pm5 an5 cd5 ct5), sl5⟩)
    (c5 : PySem.W.codeIn K cd5 "check_places" = true)
    (k5 : PySem.W.keepIn K (.ref f5) = true)
    (a6 : PySem.W.nsIn K mainGlobals "is_among" = some (some (.ref f6)))
    (l6 : K.lookup f6 = some ⟨oc6, od6, .func (PySem.W.fnOf "is_among" "is_among" (defArgs sAmong) (defBody sAmong) (defScope sAmong) .none kV6 dc6 pm6 an6 cd6 ct6), sl6⟩)
    (c6 : PySem.W.codeIn K cd6 "is_among" = true)
    (k6 : PySem.W.keepIn K (.ref f6) = true)
    (a7 : PySem.W.nsIn K mainGlobals "is_tie" = some (some (.ref f7)))
    (l7 : K.lookup f7 = some ⟨oc7, od7, .func (PySem.W.fnOf "is_tie" "is_tie" (defArgs sTie) (defBody sTie) (defScope sTie) .none kV7 dc7 pm7 an7 cd7 ct7), sl7⟩)
    (c7 : PySem.W.codeIn K cd7 "is_tie" = true)
    (k7 : PySem.W.keepIn K (.ref f7) = true)
    (a8 : PySem.W.nsIn K mainGlobals "check_ties" = some (some (.ref f8)))
    (l8 : K.lookup f8 = some ⟨oc8, od8, .func (PySem.W.fnOf "check_ties" "check_ties" (defArgs sChkT) (defBody sChkT) (defScope sChkT) .none kV8 dc8 pm8 an8 cd8 ct8), sl8⟩)
    (c8 : PySem.W.codeIn K cd8 "check_ties" = true)
    (k8 : PySem.W.keepIn K (.ref f8) = true)
    (a9 : PySem.W.nsIn K mainGlobals "is_part" = some (some (.ref f9)))
    (l9 : K.lookup f9 = some ⟨oc9, od9, .func (PySem.W.fnOf "is_part" "is_part" (defArgs sPart) (defBody sPart) (defScope sPart) .none kV9 dc9 pm9 an9 cd9 ct9), sl9⟩)
    (c9 : PySem.W.codeIn K cd9 "is_part" = true)
    (k9 : PySem.W.keepIn K (.ref f9) = true)
    (a10 : PySem.W.nsIn K mainGlobals "is_cut" = some (some (.ref f10)))
    (l10 : K.lookup f10 = some ⟨oc10, od10, .func (PySem.W.fnOf "is_cut" "is_cut" (defArgs sIsCut) (defBody sIsCut) (defScope sIsCut) .none kV10 dc10 pm10 an10 cd10 ct10), sl10⟩)
    (c10 : PySem.W.codeIn K cd10 "is_cut" = true)
    (k10 : PySem.W.keepIn K (.ref f10) = true)
    (a11 : PySem.W.nsIn K mainGlobals "check_cut" = some (some (.ref f11)))
    (l11 : K.lookup f11 = some ⟨oc11, od11, .func (PySem.W.fnOf "check_cut" "check_cut" (defArgs sChkC) (defBody sChkC) (defScope sChkC) .none kV11 dc11 pm11 an11 cd11 ct11), sl11⟩)
    (c11 : PySem.W.codeIn K cd11 "check_cut" = true)
    (k11 : PySem.W.keepIn K (.ref f11) = true)
    (a12 : PySem.W.nsIn K mainGlobals "check_family" = some (some (.ref f12)))
    (l12 : K.lookup f12 = some ⟨oc12, od12, .func (PySem.W.fnOf "check_family" "check_family" (defArgs sChkF) (defBody sChkF) (defScope sChkF) .none kV12 dc12 pm12 an12 cd12 ct12), sl12⟩)
    (c12 : PySem.W.codeIn K cd12 "check_family" = true)
    (k12 : PySem.W.keepIn K (.ref f12) = true)
    (a13 : PySem.W.nsIn K mainGlobals "had_by_both" = some (some (.ref f13)))
    (l13 : K.lookup f13 = some ⟨oc13, od13, .func (PySem.W.fnOf "had_by_both" "had_by_both" (defArgs sHBB) (defBody sHBB) (defScope sHBB) .none kV13 dc13 pm13 an13 cd13 ct13), sl13⟩)
    (c13 : PySem.W.codeIn K cd13 "had_by_both" = true)
    (k13 : PySem.W.keepIn K (.ref f13) = true)
    (a14 : PySem.W.nsIn K mainGlobals "had_by_one" = some (some (.ref f14)))
    (l14 : K.lookup f14 = some ⟨oc14, od14, .func (PySem.W.fnOf "had_by_one" "had_by_one" (defArgs sHBO) (defBody sHBO) (defScope sHBO) .none kV14 dc14 pm14 an14 cd14 ct14), sl14⟩)
    (c14 : PySem.W.codeIn K cd14 "had_by_one" = true)
    (k14 : PySem.W.keepIn K (.ref f14) = true)
    (a15 : PySem.W.nsIn K mainGlobals "are_crossing" = some (some (.ref f15)))
    (l15 : K.lookup f15 = some ⟨oc15, od15, .func (PySem.W.fnOf "are_crossing" "are_crossing" (defArgs sAre) (defBody sAre) (defScope sAre) .none kV15 dc15 pm15 an15 cd15 ct15), sl15⟩)
    (c15 : PySem.W.codeIn K cd15 "are_crossing" = true)
    (k15 : PySem.W.keepIn K (.ref f15) = true)
    (a16 : PySem.W.nsIn K mainGlobals "pairs_of" = some (some (.ref f16)))
    (l16 : K.lookup f16 = some ⟨oc16, od16, .func (PySem.W.fnOf "pairs_of" "pairs_of" (defArgs sPairs) (defBody sPairs) (defScope sPairs) .none kV16 dc16 pm16 an16 cd16 ct16), sl16⟩)
    (c16 : PySem.W.codeIn K cd16 "pairs_of" = true)
    (k16 : PySem.W.keepIn K (.ref f16) = true)
    (a17 : PySem.W.nsIn K mainGlobals "behind" = some (some (.ref f17)))
    (l17 : K.lookup f17 = some ⟨oc17, od17, .func (PySem.W.fnOf "behind" "behind" (defArgs sBehind) (defBody sBehind) (defScope sBehind) .none kV17 dc17 pm17 an17 cd17 ct17), sl17⟩)
    (c17 : PySem.W.codeIn K cd17 "behind" = true)
    (k17 : PySem.W.keepIn K (.ref f17) = true)
    (a18 : PySem.W.nsIn K mainGlobals "swept" = some (some (.ref f18)))
    (l18 : K.lookup f18 = some ⟨oc18, od18, .func (PySem.W.fnOf "swept" "swept" (defArgs sSwept) (defBody sSwept) (defScope sSwept) .none kV18 dc18 pm18 an18 cd18 ct18), sl18⟩)
    (c18 : PySem.W.codeIn K cd18 "swept" = true)
    (k18 : PySem.W.keepIn K (.ref f18) = true)
    (a19 : PySem.W.nsIn K mainGlobals "uncrossed" = some (some (.ref f19)))
    (l19 : K.lookup f19 = some ⟨oc19, od19, .func (PySem.W.fnOf "uncrossed" "uncrossed" (defArgs sUnc) (defBody sUnc) (defScope sUnc) .none kV19 dc19 pm19 an19 cd19 ct19), sl19⟩)
    (c19 : PySem.W.codeIn K cd19 "uncrossed" = true)
    (k19 : PySem.W.keepIn K (.ref f19) = true)
    (a20 : PySem.W.nsIn K mainGlobals "_law_pot" = some (some (.ref f20)))
    (l20 : K.lookup f20 = some ⟨oc20, od20, .func (PySem.W.fnOf "_law_pot" "_law_pot" (defArgs sPot) (defBody sPot) (defScope sPot) .none kV20 dc20 pm20 an20 cd20 ct20), sl20⟩)
    (c20 : PySem.W.codeIn K cd20 "_law_pot" = true)
    (k20 : PySem.W.keepIn K (.ref f20) = true)
    (a21 : PySem.W.nsIn K mainGlobals "_law_digit" = some (some (.ref f21)))
    (l21 : K.lookup f21 = some ⟨oc21, od21, .func (PySem.W.fnOf "_law_digit" "_law_digit" (defArgs sDigit) (defBody sDigit) (defScope sDigit) .none kV21 dc21 pm21 an21 cd21 ct21), sl21⟩)
    (c21 : PySem.W.codeIn K cd21 "_law_digit" = true)
    (k21 : PySem.W.keepIn K (.ref f21) = true)
    (a22 : PySem.W.nsIn K mainGlobals "_law_names" = some (some (.ref f22)))
    (l22 : K.lookup f22 = some ⟨oc22, od22, .func (PySem.W.fnOf "_law_names" "_law_names" (defArgs sNames) (defBody sNames) (defScope sNames) .none kV22 dc22 pm22 an22 cd22 ct22), sl22⟩)
    (c22 : PySem.W.codeIn K cd22 "_law_names" = true)
    (k22 : PySem.W.keepIn K (.ref f22) = true)
    (a23 : PySem.W.nsIn K mainGlobals "_law_shuffled" = some (some (.ref f23)))
    (l23 : K.lookup f23 = some ⟨oc23, od23, .func (PySem.W.fnOf "_law_shuffled" "_law_shuffled" (defArgs sShuf) (defBody sShuf) (defScope sShuf) .none kV23 dc23 pm23 an23 cd23 ct23), sl23⟩)
    (c23 : PySem.W.codeIn K cd23 "_law_shuffled" = true)
    (k23 : PySem.W.keepIn K (.ref f23) = true)
    (a24 : PySem.W.nsIn K mainGlobals "_law_web" = some (some (.ref f24)))
    (l24 : K.lookup f24 = some ⟨oc24, od24, .func (PySem.W.fnOf "_law_web" "_law_web" (defArgs sLWeb) (defBody sLWeb) (defScope sLWeb) .none kV24 dc24 pm24 an24 cd24 ct24), sl24⟩)
    (c24 : PySem.W.codeIn K cd24 "_law_web" = true)
    (k24 : PySem.W.keepIn K (.ref f24) = true)
    (a25 : PySem.W.nsIn K mainGlobals "_law_closed" = some (some (.ref f25)))
    (l25 : K.lookup f25 = some ⟨oc25, od25, .func (PySem.W.fnOf "_law_closed" "_law_closed" (defArgs sClosed) (defBody sClosed) (defScope sClosed) .none kV25 dc25 pm25 an25 cd25 ct25), sl25⟩)
    (c25 : PySem.W.codeIn K cd25 "_law_closed" = true)
    (k25 : PySem.W.keepIn K (.ref f25) = true)
    (a26 : PySem.W.nsIn K mainGlobals "_law_cut" = some (some (.ref f26)))
    (l26 : K.lookup f26 = some ⟨oc26, od26, .func (PySem.W.fnOf "_law_cut" "_law_cut" (defArgs sCut) (defBody sCut) (defScope sCut) .none kV26 dc26 pm26 an26 cd26 ct26), sl26⟩)
    (c26 : PySem.W.codeIn K cd26 "_law_cut" = true)
    (k26 : PySem.W.keepIn K (.ref f26) = true)
    (a27 : PySem.W.nsIn K mainGlobals "_law_family" = some (some (.ref f27)))
    (l27 : K.lookup f27 = some ⟨oc27, od27, .func (PySem.W.fnOf "_law_family" "_law_family" (defArgs sFam) (defBody sFam) (defScope sFam) .none kV27 dc27 pm27 an27 cd27 ct27), sl27⟩)
    (c27 : PySem.W.codeIn K cd27 "_law_family" = true)
    (k27 : PySem.W.keepIn K (.ref f27) = true)
    (a28 : PySem.W.nsIn K mainGlobals "_law_cross" = some (some (.ref f28)))
    (l28 : K.lookup f28 = some ⟨oc28, od28, .func (PySem.W.fnOf "_law_cross" "_law_cross" (defArgs sCross) (defBody sCross) (defScope sCross) .none kV28 dc28 pm28 an28 cd28 ct28), sl28⟩)
    (c28 : PySem.W.codeIn K cd28 "_law_cross" = true)
    (k28 : PySem.W.keepIn K (.ref f28) = true)
    (a29 : PySem.W.nsIn K mainGlobals "_law_entered" = some (some (.ref f29)))
    (l29 : K.lookup f29 = some ⟨oc29, od29, .func (PySem.W.fnOf "_law_entered" "_law_entered" (defArgs sLEnt) (defBody sLEnt) (defScope sLEnt) .none kV29 dc29 pm29 an29 cd29 ct29), sl29⟩)
    (c29 : PySem.W.codeIn K cd29 "_law_entered" = true)
    (k29 : PySem.W.keepIn K (.ref f29) = true)
    (a30 : PySem.W.nsIn K mainGlobals "_law_any_cross" = some (some (.ref f30)))
    (l30 : K.lookup f30 = some ⟨oc30, od30, .func (PySem.W.fnOf "_law_any_cross" "_law_any_cross" (defArgs sAnyX) (defBody sAnyX) (defScope sAnyX) .none kV30 dc30 pm30 an30 cd30 ct30), sl30⟩)
    (c30 : PySem.W.codeIn K cd30 "_law_any_cross" = true)
    (k30 : PySem.W.keepIn K (.ref f30) = true)
    (a31 : PySem.W.nsIn K mainGlobals "_law_led" = some (some (.ref f31)))
    (l31 : K.lookup f31 = some ⟨oc31, od31, .func (PySem.W.fnOf "_law_led" "_law_led" (defArgs sLed) (defBody sLed) (defScope sLed) .none kV31 dc31 pm31 an31 cd31 ct31), sl31⟩)
    (c31 : PySem.W.codeIn K cd31 "_law_led" = true)
    (k31 : PySem.W.keepIn K (.ref f31) = true)
    (a32 : PySem.W.nsIn K mainGlobals "_law_right" = some (some (.ref f32)))
    (l32 : K.lookup f32 = some ⟨oc32, od32, .func (PySem.W.fnOf "_law_right" "_law_right" (defArgs sRight) (defBody sRight) (defScope sRight) .none kV32 dc32 pm32 an32 cd32 ct32), sl32⟩)
    (c32 : PySem.W.codeIn K cd32 "_law_right" = true)
    (k32 : PySem.W.keepIn K (.ref f32) = true)
    (a33 : PySem.W.nsIn K mainGlobals "law" = some (some (.ref f33)))
    (l33 : K.lookup f33 = some ⟨oc33, od33, .func (PySem.W.fnOf "law" "law" (defArgs sLaw) (defBody sLaw) (defScope sLaw) .none kV33 dc33 pm33 an33 cd33 ct33), sl33⟩)
    (c33 : PySem.W.codeIn K cd33 "law" = true)
    (k33 : PySem.W.keepIn K (.ref f33) = true)
    (g_divmod : PySem.W.nsIn K mainGlobals "divmod" = some none)
    (g_len : PySem.W.nsIn K mainGlobals "len" = some none)
    (g_all : PySem.W.nsIn K mainGlobals "all" = some none)
    (g_isinstance : PySem.W.nsIn K mainGlobals "isinstance" = some none)
    (g_str : PySem.W.nsIn K mainGlobals "str" = some none)
    (g_range : PySem.W.nsIn K mainGlobals "range" = some none)
    (g_max : PySem.W.nsIn K mainGlobals "max" = some none)
    (g_min : PySem.W.nsIn K mainGlobals "min" = some none)
    (g_bool : PySem.W.nsIn K mainGlobals "bool" = some none)
    (g_list : PySem.W.nsIn K mainGlobals "list" = some none)
    (g_int : PySem.W.nsIn K mainGlobals "int" = some none)
    (g_tuple : PySem.W.nsIn K mainGlobals "tuple" = some none)
    (g_set : PySem.W.nsIn K mainGlobals "set" = some none)
    (g_sorted : PySem.W.nsIn K mainGlobals "sorted" = some none)
    (g_abs : PySem.W.nsIn K mainGlobals "abs" = some none)
    (g_any : PySem.W.nsIn K mainGlobals "any" = some none)
    (g_enumerate : PySem.W.nsIn K mainGlobals "enumerate" = some none)
    (g_repr : PySem.W.nsIn K mainGlobals "repr" = some none)
    (g_LONGEST : PySem.W.nsIn K mainGlobals "LONGEST" = some (some (.int 8 t_LONGEST)))
    (g_MOST_PLACES : PySem.W.nsIn K mainGlobals "MOST_PLACES" = some (some (.int 12 t_MOST_PLACES)))
    (g_MOST_TIES : PySem.W.nsIn K mainGlobals "MOST_TIES" = some (some (.int 30 t_MOST_TIES)))
    : ∃ fd : FuncData, (∀ (s : Shared) (v : Value), BindsTo s fd ⟨[v], []⟩ [("_law_script", v)]) ∧ ∀ base : Heap, K.In base → base.Ns mainGlobals mg → FnOk l.prog w K mg base CX0 8 fa fd ["_law_script"] (spLaw K) := by
  have e := hfa.symm.trans (PySem.W.mg_of X G a33)
  cases e
  have F_init := fun_mk (st := sInit) l1 c1 k1
  have B_init := F_init.binds (ps := ["self", "places", "ties"]) fun _ _ _ _ _ _ us hl => match us, hl with | [_, _, _], _ => rfl
  have Mm_init : Meth K C "__init__" f1 := ⟨a1, i1, k1⟩
  have F_places := fun_mk (st := sPlaces) l2 c2 k2
  have B_places := F_places.binds (ps := ["self"]) fun _ _ _ _ _ _ us hl => match us, hl with | [_], _ => rfl
  have Mm_places : Meth K C "places" f2 := ⟨a2, i2, k2⟩
  have F_ties := fun_mk (st := sTies) l3 c3 k3
  have B_ties := F_ties.binds (ps := ["self"]) fun _ _ _ _ _ _ us hl => match us, hl with | [_], _ => rfl
  have Mm_ties : Meth K C "ties" f3 := ⟨a3, i3, k3⟩
  have W : WC K mg C := ⟨⟨pg, hd, po, sa⟩, nA0, nA1, PySem.W.mg_of X G aC⟩
  have MkC : Mk K C f1 := ⟨mk, a1, i1, kc⟩
  have F_name := fun_mk (st := sName) l4 c4 k4
  have B_name := F_name.binds (ps := ["thing"]) fun _ _ _ _ _ _ us hl => match us, hl with | [_], _ => rfl
  have D_name : Df K mg "is_name" sName ["thing"] f4 _ := ⟨F_name, PySem.W.mg_of X G a4, B_name⟩
  have F_chkP := fun_mk (st := sChkP) l5 c5 k5
  have B_chkP := F_chkP.binds (ps := ["places"]) fun _ _ _ _ _ _ us hl => match us, hl with | [_], _ => rfl
  have D_chkP : Df K mg "check_places" sChkP ["places"] f5 _ := ⟨F_chkP, PySem.W.mg_of X G a5, B_chkP⟩
  have F_among := fun_mk (st := sAmong) l6 c6 k6
  have B_among := F_among.binds (ps := ["places", "thing"]) fun _ _ _ _ _ _ us hl => match us, hl with | [_, _], _ => rfl
  have D_among : Df K mg "is_among" sAmong ["places", "thing"] f6 _ := ⟨F_among, PySem.W.mg_of X G a6, B_among⟩
  have F_tie := fun_mk (st := sTie) l7 c7 k7
  have B_tie := F_tie.binds (ps := ["places", "thing"]) fun _ _ _ _ _ _ us hl => match us, hl with | [_, _], _ => rfl
  have D_tie : Df K mg "is_tie" sTie ["places", "thing"] f7 _ := ⟨F_tie, PySem.W.mg_of X G a7, B_tie⟩
  have F_chkT := fun_mk (st := sChkT) l8 c8 k8
  have B_chkT := F_chkT.binds (ps := ["places", "ties"]) fun _ _ _ _ _ _ us hl => match us, hl with | [_, _], _ => rfl
  have D_chkT : Df K mg "check_ties" sChkT ["places", "ties"] f8 _ := ⟨F_chkT, PySem.W.mg_of X G a8, B_chkT⟩
  have F_part := fun_mk (st := sPart) l9 c9 k9
  have B_part := F_part.binds (ps := ["places", "thing"]) fun _ _ _ _ _ _ us hl => match us, hl with | [_, _], _ => rfl
  have D_part : Df K mg "is_part" sPart ["places", "thing"] f9 _ := ⟨F_part, PySem.W.mg_of X G a9, B_part⟩
  have F_isCut := fun_mk (st := sIsCut) l10 c10 k10
  have B_isCut := F_isCut.binds (ps := ["web", "thing"]) fun _ _ _ _ _ _ us hl => match us, hl with | [_, _], _ => rfl
  have D_isCut : Df K mg "is_cut" sIsCut ["web", "thing"] f10 _ := ⟨F_isCut, PySem.W.mg_of X G a10, B_isCut⟩
  have F_chkC := fun_mk (st := sChkC) l11 c11 k11
  have B_chkC := F_chkC.binds (ps := ["web", "cut"]) fun _ _ _ _ _ _ us hl => match us, hl with | [_, _], _ => rfl
  have D_chkC : Df K mg "check_cut" sChkC ["web", "cut"] f11 _ := ⟨F_chkC, PySem.W.mg_of X G a11, B_chkC⟩
  have F_chkF := fun_mk (st := sChkF) l12 c12 k12
  have B_chkF := F_chkF.binds (ps := ["web", "family"]) fun _ _ _ _ _ _ us hl => match us, hl with | [_, _], _ => rfl
  have D_chkF : Df K mg "check_family" sChkF ["web", "family"] f12 _ := ⟨F_chkF, PySem.W.mg_of X G a12, B_chkF⟩
  have F_hbb := fun_mk (st := sHBB) l13 c13 k13
  have B_hbb := F_hbb.binds (ps := ["web", "places", "others"]) fun _ _ _ _ _ _ us hl => match us, hl with | [_, _, _], _ => rfl
  have D_hbb : Df K mg "had_by_both" sHBB ["web", "places", "others"] f13 _ := ⟨F_hbb, PySem.W.mg_of X G a13, B_hbb⟩
  have F_hbo := fun_mk (st := sHBO) l14 c14 k14
  have B_hbo := F_hbo.binds (ps := ["web", "places", "others"]) fun _ _ _ _ _ _ us hl => match us, hl with | [_, _, _], _ => rfl
  have D_hbo : Df K mg "had_by_one" sHBO ["web", "places", "others"] f14 _ := ⟨F_hbo, PySem.W.mg_of X G a14, B_hbo⟩
  have F_are := fun_mk (st := sAre) l15 c15 k15
  have B_are := F_are.binds (ps := ["web", "cut", "other"]) fun _ _ _ _ _ _ us hl => match us, hl with | [_, _, _], _ => rfl
  have D_are : Df K mg "are_crossing" sAre ["web", "cut", "other"] f15 _ := ⟨F_are, PySem.W.mg_of X G a15, B_are⟩
  have F_pairs := fun_mk (st := sPairs) l16 c16 k16
  have B_pairs := F_pairs.binds (ps := ["many"]) fun _ _ _ _ _ _ us hl => match us, hl with | [_], _ => rfl
  have D_pairs : Df K mg "pairs_of" sPairs ["many"] f16 _ := ⟨F_pairs, PySem.W.mg_of X G a16, B_pairs⟩
  have F_behind := fun_mk (st := sBehind) l17 c17 k17
  have B_behind := F_behind.binds (ps := ["web", "family", "i", "j"]) fun _ _ _ _ _ _ us hl => match us, hl with | [_, _, _, _], _ => rfl
  have D_behind : Df K mg "behind" sBehind ["web", "family", "i", "j"] f17 _ := ⟨F_behind, PySem.W.mg_of X G a17, B_behind⟩
  have F_swept := fun_mk (st := sSwept) l18 c18 k18
  have B_swept := F_swept.binds (ps := ["web", "family"]) fun _ _ _ _ _ _ us hl => match us, hl with | [_, _], _ => rfl
  have D_swept : Df K mg "swept" sSwept ["web", "family"] f18 _ := ⟨F_swept, PySem.W.mg_of X G a18, B_swept⟩
  have F_unc := fun_mk (st := sUnc) l19 c19 k19
  have B_unc := F_unc.binds (ps := ["web", "family"]) fun _ _ _ _ _ _ us hl => match us, hl with | [_, _], _ => rfl
  have D_unc : Df K mg "uncrossed" sUnc ["web", "family"] f19 _ := ⟨F_unc, PySem.W.mg_of X G a19, B_unc⟩
  have F_pot := fun_mk (st := sPot) l20 c20 k20
  have B_pot := F_pot.binds (ps := ["_law_script", "_law_k"]) fun _ _ _ _ _ _ us hl => match us, hl with | [_, _], _ => rfl
  have D_pot : Df K mg "_law_pot" sPot ["_law_script", "_law_k"] f20 _ := ⟨F_pot, PySem.W.mg_of X G a20, B_pot⟩
  have F_digit := fun_mk (st := sDigit) l21 c21 k21
  have B_digit := F_digit.binds (ps := ["_law_pot_here", "_law_many"]) fun _ _ _ _ _ _ us hl => match us, hl with | [_, _], _ => rfl
  have D_digit : Df K mg "_law_digit" sDigit ["_law_pot_here", "_law_many"] f21 _ := ⟨F_digit, PySem.W.mg_of X G a21, B_digit⟩
  have F_names := fun_mk (st := sNames) l22 c22 k22
  have B_names := F_names.binds (ps := ["_law_pot_here", "_law_many"]) fun _ _ _ _ _ _ us hl => match us, hl with | [_, _], _ => rfl
  have D_names : Df K mg "_law_names" sNames ["_law_pot_here", "_law_many"] f22 _ := ⟨F_names, PySem.W.mg_of X G a22, B_names⟩
  have F_shuf := fun_mk (st := sShuf) l23 c23 k23
  have B_shuf := F_shuf.binds (ps := ["_law_pot_here", "_law_things"]) fun _ _ _ _ _ _ us hl => match us, hl with | [_, _], _ => rfl
  have D_shuf : Df K mg "_law_shuffled" sShuf ["_law_pot_here", "_law_things"] f23 _ := ⟨F_shuf, PySem.W.mg_of X G a23, B_shuf⟩
  have F_lweb := fun_mk (st := sLWeb) l24 c24 k24
  have B_lweb := F_lweb.binds (ps := ["_law_pot_here", "_law_names_here", "_law_most"]) fun _ _ _ _ _ _ us hl => match us, hl with | [_, _, _], _ => rfl
  have D_lweb : Df K mg "_law_web" sLWeb ["_law_pot_here", "_law_names_here", "_law_most"] f24 _ := ⟨F_lweb, PySem.W.mg_of X G a24, B_lweb⟩
  have F_closed := fun_mk (st := sClosed) l25 c25 k25
  have B_closed := F_closed.binds (ps := ["_law_ties", "_law_some"]) fun _ _ _ _ _ _ us hl => match us, hl with | [_, _], _ => rfl
  have D_closed : Df K mg "_law_closed" sClosed ["_law_ties", "_law_some"] f25 _ := ⟨F_closed, PySem.W.mg_of X G a25, B_closed⟩
  have F_cut := fun_mk (st := sCut) l26 c26 k26
  have B_cut := F_cut.binds (ps := ["_law_pot_here", "_law_names_here", "_law_ties"]) fun _ _ _ _ _ _ us hl => match us, hl with | [_, _, _], _ => rfl
  have D_cut : Df K mg "_law_cut" sCut ["_law_pot_here", "_law_names_here", "_law_ties"] f26 _ := ⟨F_cut, PySem.W.mg_of X G a26, B_cut⟩
  have F_fam := fun_mk (st := sFam) l27 c27 k27
  have B_fam := F_fam.binds (ps := ["_law_pot_here", "_law_names_here", "_law_ties", "_law_most"]) fun _ _ _ _ _ _ us hl => match us, hl with | [_, _, _, _], _ => rfl
  have D_fam : Df K mg "_law_family" sFam ["_law_pot_here", "_law_names_here", "_law_ties", "_law_most"] f27 _ := ⟨F_fam, PySem.W.mg_of X G a27, B_fam⟩
  have F_lcross := fun_mk (st := sCross) l28 c28 k28
  have B_lcross := F_lcross.binds (ps := ["_law_names_here", "_law_one", "_law_other"]) fun _ _ _ _ _ _ us hl => match us, hl with | [_, _, _], _ => rfl
  have D_lcross : Df K mg "_law_cross" sCross ["_law_names_here", "_law_one", "_law_other"] f28 _ := ⟨F_lcross, PySem.W.mg_of X G a28, B_lcross⟩
  have F_lent := fun_mk (st := sLEnt) l29 c29 k29
  have B_lent := F_lent.binds (ps := ["_law_ties", "_law_family_here"]) fun _ _ _ _ _ _ us hl => match us, hl with | [_, _], _ => rfl
  have D_lent : Df K mg "_law_entered" sLEnt ["_law_ties", "_law_family_here"] f29 _ := ⟨F_lent, PySem.W.mg_of X G a29, B_lent⟩
  have F_anyX := fun_mk (st := sAnyX) l30 c30 k30
  have B_anyX := F_anyX.binds (ps := ["_law_names_here", "_law_family_here"]) fun _ _ _ _ _ _ us hl => match us, hl with | [_, _], _ => rfl
  have D_anyX : Df K mg "_law_any_cross" sAnyX ["_law_names_here", "_law_family_here"] f30 _ := ⟨F_anyX, PySem.W.mg_of X G a30, B_anyX⟩
  have F_led := fun_mk (st := sLed) l31 c31 k31
  have B_led := F_led.binds (ps := ["_law_names_here", "_law_family_here", "_law_steps"]) fun _ _ _ _ _ _ us hl => match us, hl with | [_, _, _], _ => rfl
  have D_led : Df K mg "_law_led" sLed ["_law_names_here", "_law_family_here", "_law_steps"] f31 _ := ⟨F_led, PySem.W.mg_of X G a31, B_led⟩
  have F_right := fun_mk (st := sRight) l32 c32 k32
  have B_right := F_right.binds (ps := ["_law_web_here", "_law_names_here", "_law_ties", "_law_family_here"]) fun _ _ _ _ _ _ us hl => match us, hl with | [_, _, _, _], _ => rfl
  have D_right : Df K mg "_law_right" sRight ["_law_web_here", "_law_names_here", "_law_ties", "_law_family_here"] f32 _ := ⟨F_right, PySem.W.mg_of X G a32, B_right⟩
  have F_law := fun_mk (st := sLaw) l33 c33 k33
  have m_divmod := PySem.W.mg_none_of X G g_divmod
  have m_len := PySem.W.mg_none_of X G g_len
  have m_all := PySem.W.mg_none_of X G g_all
  have m_isinstance := PySem.W.mg_none_of X G g_isinstance
  have m_str := PySem.W.mg_none_of X G g_str
  have m_range := PySem.W.mg_none_of X G g_range
  have m_max := PySem.W.mg_none_of X G g_max
  have m_min := PySem.W.mg_none_of X G g_min
  have m_bool := PySem.W.mg_none_of X G g_bool
  have m_list := PySem.W.mg_none_of X G g_list
  have m_int := PySem.W.mg_none_of X G g_int
  have m_tuple := PySem.W.mg_none_of X G g_tuple
  have m_set := PySem.W.mg_none_of X G g_set
  have m_sorted := PySem.W.mg_none_of X G g_sorted
  have m_abs := PySem.W.mg_none_of X G g_abs
  have m_any := PySem.W.mg_none_of X G g_any
  have m_enumerate := PySem.W.mg_none_of X G g_enumerate
  have m_repr := PySem.W.mg_none_of X G g_repr
  have m_LONGEST := PySem.W.mg_of X G g_LONGEST
  have m_MOST_PLACES := PySem.W.mg_of X G g_MOST_PLACES
  have m_MOST_TIES := PySem.W.mg_of X G g_MOST_TIES
  have T : Glb mg := ⟨m_divmod, m_len, m_all, m_isinstance, m_str, m_range, m_max, m_min, m_bool, m_list, m_int, m_tuple, m_set, m_sorted, ⟨_, m_LONGEST⟩, ⟨_, m_MOST_PLACES⟩, ⟨_, m_MOST_TIES⟩⟩
  have M := Mt.mk W F_places Mm_places B_places F_ties Mm_ties B_ties
  have Dc := Cd.mk M D_among D_part D_isCut ⟨m_any, m_enumerate⟩
  have Dx := Xd.mk Dc D_hbb D_hbo D_are D_chkC D_chkF
  have D := Pd.mk Dx D_pairs D_behind D_swept D_unc D_lcross D_lent D_anyX D_led m_repr
  have B := Dw.mk D_pot D_digit D_names D_shuf D_lweb D_closed D_cut D_fam m_abs
  exact ⟨PySem.W.fnOf "law" "law" (defArgs sLaw) (defBody sLaw) (defScope sLaw) .none kV33 dc33 pm33 an33 cd33 ct33, fun s v => .of_eq rfl, fun base _ _ => ok_law F_law B D_name D_tie D_chkP D_chkT F_init MkC B_init D D_right T⟩
theorem walk {l : PySem.W.OpenLaw} {q : Program} {loose : List Str} {XP : (Str → Option Value) → Heap → Prop} {YP : World → Heap → Prop} {d : DefRec} {K : Params → PySem.W.Frag} (hn : l.most = some 63) (hdf : d.params.defaults = [])
    (hY : ∀ (w : World) (h : Heap), YP w h → (K w.params).In h)
    (F : ∀ (w : World) (mg : Str → Option Value) (fa : Addr) (h : Heap), (K w.params).In h → h.Ns mainGlobals mg → mg d.name = some (.ref fa) →
      ∃ fd : FuncData, (∀ (s : Shared) (u : Value), BindsTo s fd ⟨[u], []⟩ [("_law_script", u)]) ∧ ∀ base : Heap, (K w.params).In base → base.Ns mainGlobals mg → FnOk l.prog w (K w.params) mg base CX0 8 fa fd ["_law_script"] (spLaw (K w.params))) :
    PySem.W.WalkO q loose XP YP l.row.toRowW d [] (fun f vs => PySem.call f vs) :=
  L2.walk_of (n := 63) (k := 8) (x := "_law_script") (CX := fun _ => CX0) (sp := fun w => spLaw (K w.params)) hn (by decide) hdf ⟨rfl, by decide, by decide, rfl⟩ hY F (fun _ _ a ns hl _ hS => ⟨a, ns, rfl, hS, hl, fun _ => rfl⟩) fun _ _ _ _ _ z => z
end K34
def PySem.W.Fast.tw311852668354329428 : Unit := ()
def PySem.W.Fast.tw5407207185114043826 : Unit := ()
def PySem.W.Fast.tw1073425338895532222 : Unit := ()
def PySem.W.Fast.tw7741255421123166632 : Unit := ()
def PySem.W.Fast.tw16828560180096130295 : Unit := ()
def PySem.W.Fast.tw5831976814535941961 : Unit := ()
def PySem.W.Fast.tw1977666384840704716 : Unit := ()
open PySem PySem.W PyProof.Rows
set_option maxRecDepth 100000 in
set_option maxHeartbeats 0 in
theorem PySem.Challenge.cw_cutmeet_k34_whole_told_steps_lead_there_holds : PySem.Challenge.rw_cutmeet_k34_whole_told_steps_lead_there.Holds := by
  w_on; o_law; k_head; (case hw => w_witness2)
  k_fill
  refine K34.walk (l := PySem.Challenge.rw_cutmeet_k34_whole_told_steps_lead_there) rfl rfl (fun w h Y => PySem.W.kIn_of Y) ?F
  case F =>
    intro w mg fa h KX G hmg
    refine' K34.all_mk KX G hmg ?aC ?a1 ?i1 ?l1 ?c1 ?k1 ?a2 ?i2 ?l2 ?c2 ?k2 ?a3 ?i3 ?l3 ?c3 ?k3 ?pg ?hd ?po ?sa ?mk ?kc ?nA0 ?nA1 ?a4 ?l4 ?c4 ?k4 ?a5 ?l5 ?c5 ?k5 ?a6 ?l6 ?c6 ?k6 ?a7 ?l7 ?c7 ?k7 ?a8 ?l8 ?c8 ?k8 ?a9 ?l9 ?c9 ?k9 ?a10 ?l10 ?c10 ?k10 ?a11 ?l11 ?c11 ?k11 ?a12 ?l12 ?c12 ?k12 ?a13 ?l13 ?c13 ?k13 ?a14 ?l14 ?c14 ?k14 ?a15 ?l15 ?c15 ?k15 ?a16 ?l16 ?c16 ?k16 ?a17 ?l17 ?c17 ?k17 ?a18 ?l18 ?c18 ?k18 ?a19 ?l19 ?c19 ?k19 ?a20 ?l20 ?c20 ?k20 ?a21 ?l21 ?c21 ?k21 ?a22 ?l22 ?c22 ?k22 ?a23 ?l23 ?c23 ?k23 ?a24 ?l24 ?c24 ?k24 ?a25 ?l25 ?c25 ?k25 ?a26 ?l26 ?c26 ?k26 ?a27 ?l27 ?c27 ?k27 ?a28 ?l28 ?c28 ?k28 ?a29 ?l29 ?c29 ?k29 ?a30 ?l30 ?c30 ?k30 ?a31 ?l31 ?c31 ?k31 ?a32 ?l32 ?c32 ?k32 ?a33 ?l33 ?c33 ?k33 ?g_divmod ?g_len ?g_all ?g_isinstance ?g_str ?g_range ?g_max ?g_min ?g_bool ?g_list ?g_int ?g_tuple ?g_set ?g_sorted ?g_abs ?g_any ?g_enumerate ?g_repr ?g_LONGEST ?g_MOST_PLACES ?g_MOST_TIES
    (case aC => k_is)
    (case a1 => k_is)
    (case i1 => k_is)
    (case l1 => k_is)
    (case c1 => k_is)
    (case k1 => k_is)
    (case a2 => k_is)
    (case i2 => k_is)
    (case l2 => k_is)
    (case c2 => k_is)
    (case k2 => k_is)
    (case a3 => k_is)
    (case i3 => k_is)
    (case l3 => k_is)
    (case c3 => k_is)
    (case k3 => k_is)
    (case pg => k_is)
    (case hd => k_is)
    (case po => k_is)
    (case sa => k_is)
    (case mk => k_is)
    (case kc => k_is)
    (case nA0 => k_is)
    (case nA1 => k_is)
    (case a4 => k_is)
    (case l4 => k_is)
    (case c4 => k_is)
    (case k4 => k_is)
    (case a5 => k_is)
    (case l5 => k_is)
    (case c5 => k_is)
    (case k5 => k_is)
    (case a6 => k_is)
    (case l6 => k_is)
    (case c6 => k_is)
    (case k6 => k_is)
    (case a7 => k_is)
    (case l7 => k_is)
    (case c7 => k_is)
    (case k7 => k_is)
    (case a8 => k_is)
    (case l8 => k_is)
    (case c8 => k_is)
    (case k8 => k_is)
    (case a9 => k_is)
    (case l9 => k_is)
    (case c9 => k_is)
    (case k9 => k_is)
    (case a10 => k_is)
    (case l10 => k_is)
    (case c10 => k_is)
    (case k10 => k_is)
    (case a11 => k_is)
    (case l11 => k_is)
    (case c11 => k_is)
    (case k11 => k_is)
    (case a12 => k_is)
    (case l12 => k_is)
    (case c12 => k_is)
    (case k12 => k_is)
    (case a13 => k_is)
    (case l13 => k_is)
    (case c13 => k_is)
    (case k13 => k_is)
    (case a14 => k_is)
    (case l14 => k_is)
    (case c14 => k_is)
    (case k14 => k_is)
    (case a15 => k_is)
    (case l15 => k_is)
    (case c15 => k_is)
    (case k15 => k_is)
    (case a16 => k_is)
    (case l16 => k_is)
    (case c16 => k_is)
    (case k16 => k_is)
    (case a17 => k_is)
    (case l17 => k_is)
    (case c17 => k_is)
    (case k17 => k_is)
    (case a18 => k_is)
    (case l18 => k_is)
    (case c18 => k_is)
    (case k18 => k_is)
    (case a19 => k_is)
    (case l19 => k_is)
    (case c19 => k_is)
    (case k19 => k_is)
    (case a20 => k_is)
    (case l20 => k_is)
    (case c20 => k_is)
    (case k20 => k_is)
    (case a21 => k_is)
    (case l21 => k_is)
    (case c21 => k_is)
    (case k21 => k_is)
    (case a22 => k_is)
    (case l22 => k_is)
    (case c22 => k_is)
    (case k22 => k_is)
    (case a23 => k_is)
    (case l23 => k_is)
    (case c23 => k_is)
    (case k23 => k_is)
    (case a24 => k_is)
    (case l24 => k_is)
    (case c24 => k_is)
    (case k24 => k_is)
    (case a25 => k_is)
    (case l25 => k_is)
    (case c25 => k_is)
    (case k25 => k_is)
    (case a26 => k_is)
    (case l26 => k_is)
    (case c26 => k_is)
    (case k26 => k_is)
    (case a27 => k_is)
    (case l27 => k_is)
    (case c27 => k_is)
    (case k27 => k_is)
    (case a28 => k_is)
    (case l28 => k_is)
    (case c28 => k_is)
    (case k28 => k_is)
    (case a29 => k_is)
    (case l29 => k_is)
    (case c29 => k_is)
    (case k29 => k_is)
    (case a30 => k_is)
    (case l30 => k_is)
    (case c30 => k_is)
    (case k30 => k_is)
    (case a31 => k_is)
    (case l31 => k_is)
    (case c31 => k_is)
    (case k31 => k_is)
    (case a32 => k_is)
    (case l32 => k_is)
    (case c32 => k_is)
    (case k32 => k_is)
    (case a33 => k_is)
    (case l33 => k_is)
    (case c33 => k_is)
    (case k33 => k_is)
    (case g_divmod => k_is)
    (case g_len => k_is)
    (case g_all => k_is)
    (case g_isinstance => k_is)
    (case g_str => k_is)
    (case g_range => k_is)
    (case g_max => k_is)
    (case g_min => k_is)
    (case g_bool => k_is)
    (case g_list => k_is)
    (case g_int => k_is)
    (case g_tuple => k_is)
    (case g_set => k_is)
    (case g_sorted => k_is)
    (case g_abs => k_is)
    (case g_any => k_is)
    (case g_enumerate => k_is)
    (case g_repr => k_is)
    (case g_LONGEST => k_is)
    (case g_MOST_PLACES => k_is)
    (case g_MOST_TIES => k_is)



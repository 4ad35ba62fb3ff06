import PyProof.Rows.All
import Wide.All
import OpenK.AllK
import Wide.FinOn
import Lean
import PyProof.EqAt
import PyProof.EqKinds
import PyProof.TupleCall
import PyProof.NeKinds
import PyProof.DictCompW
import KE.KDictSum
import PyProof.EnumFor
import PyProof.EnumMake
import PyProof.EnumStmt
import KE.KRevSl
import KE.KDictOf
import PyProof.AttrMissHeap
import PyProof.Rows.FactsN_abs
import PySem.Challenge.RW_cutmeet_k23_least_and_greatest
set_option Elab.async false
set_option linter.all false
set_option maxRecDepth 100000
/-! THE HAND LAYER, for ints, bools, texts, own classes, LISTS and tuples (index, slices, in, append, pop ..), calls, loops. Paste it whole ahead of your own text; what your proof does not reach may be deleted. -/
namespace L2
open PySem PySem.Spec PyProof.Rows

/-- a key: an int or a str -/
abbrev Key := Sum Int Str
def keyIs : Key → Value → Bool
  | .inl k, v => Value.isInt k v
  | .inr x, v => Value.isStrOf x v
def keyH (w : World) : Key → Int
  | .inl k => hashInt k
  | .inr x => hashStr w x
theorem keyIs_shape : ∀ {k : Key} {v : Value}, keyIs k v = true → (∃ i t, k = Sum.inl i ∧ v = Value.int i t) ∨ (∃ x t, k = Sum.inr x ∧ v = Value.str x t)
  | .inl i, v, h => by
    obtain ⟨t, e⟩ := Value.isInt_shape (k := i) (v := v) h
    exact .inl ⟨i, t, rfl, e⟩
  | .inr x, v, h => by
    obtain ⟨t, e⟩ := Value.isStrOf_shape (x := x) (v := v) h
    exact .inr ⟨x, t, rfl, e⟩
theorem keyIs_int (i : Int) (t : Tok) : keyIs (.inl i) (.int i t) = true := by simp [keyIs, Value.isInt]
theorem keyIs_str (x : Str) (t : Tok) : keyIs (.inr x) (.str x t) = true := by simp [keyIs, Value.isStrOf]
theorem key_ll (a b : Int) : decide ((Sum.inl a : Key) = Sum.inl b) = (a == b) := by
  by_cases e : a = b
  · subst e; simp
  · have h : ¬ (Sum.inl a : Key) = Sum.inl b := fun q => e (Sum.inl.inj q)
    rw [decide_eq_false h]
    exact (beq_eq_false_iff_ne.mpr e).symm
theorem key_rr (a b : Str) : decide ((Sum.inr a : Key) = Sum.inr b) = decide (a = b) := by
  by_cases e : a = b
  · subst e; simp
  · have h : ¬ (Sum.inr a : Key) = Sum.inr b := fun q => e (Sum.inr.inj q)
    rw [decide_eq_false h, decide_eq_false e]
theorem key_lr (a : Int) (b : Str) : decide ((Sum.inl a : Key) = Sum.inr b) = false := decide_eq_false (fun q => nomatch q)
theorem key_rl (a : Str) (b : Int) : decide ((Sum.inr a : Key) = Sum.inl b) = false := decide_eq_false (fun q => nomatch q)

def mixKind (prog : Program) (w : World) : PySem.KeyKind prog w Key where
  is := keyIs
  hash := keyH w
  inj := fun v a b ha hb => by
    rcases keyIs_shape ha with ⟨i, t, rfl, rfl⟩ | ⟨x, t, rfl, rfl⟩
    · rcases keyIs_shape hb with ⟨j, u, rfl, e⟩ | ⟨y, u, rfl, e⟩
      · injection e with e1 _; rw [e1]
      · exact nomatch e
    · rcases keyIs_shape hb with ⟨j, u, rfl, e⟩ | ⟨y, u, rfl, e⟩
      · exact nomatch e
      · injection e with e1 _; rw [e1]
  byValue := fun k v h => by
    rcases keyIs_shape h with ⟨i, t, rfl, rfl⟩ | ⟨x, t, rfl, rfl⟩ <;> rfl
  pyHash := fun hv h => by
    rcases keyIs_shape hv with ⟨i, t, rfl, rfl⟩ | ⟨x, t, rfl, rfl⟩
    · exact wpAny_pyHash_int h
    · exact wpAny_pyHash_str h
  eqBool := fun hu hv h => by
    rcases keyIs_shape hu with ⟨i, t, rfl, rfl⟩ | ⟨x, t, rfl, rfl⟩
    · rcases keyIs_shape hv with ⟨j, u, rfl, rfl⟩ | ⟨y, u, rfl, rfl⟩
      · rw [key_ll] at h; exact wpAny_eqBool_int h
      · rw [key_lr] at h; exact SeqAt.EqAt.int_str i t y u _ _ _ _ h
    · rcases keyIs_shape hv with ⟨j, u, rfl, rfl⟩ | ⟨y, u, rfl, rfl⟩
      · rw [key_rl] at h; exact SeqAt.EqAt.str_int x t j u _ _ _ _ h
      · rw [key_rr] at h; exact wpAny_eqBool_str h
  «strs» := fun k x t v h => by
    rcases keyIs_shape h with ⟨i, u, rfl, e⟩ | ⟨y, u, rfl, e⟩
    · exact nomatch e
    · injection e with e1 _
      subst e1
      cases v <;> rfl

theorem mixKind_int (prog : Program) (w : World) (i : Int) (t : Tok) : (mixKind prog w).is (.inl i) (.int i t) = true := keyIs_int i t
theorem mixKind_str (prog : Program) (w : World) (x : Str) (t : Tok) : (mixKind prog w).is (.inr x) (.str x t) = true := keyIs_str x t
end L2

namespace L2
open PySem PySem.Spec PyProof.Rows

/-- a value, without the heap -/
inductive V where
  | non | bl (b : Bool) | int (i : Int) | str (x : Str) | byt (b : Array UInt8) | flt (b : UInt64) | ref (a : Addr) | ty (n : String)
  deriving DecidableEq

def RelV : V → Value → Prop
  | .non, u => u = Value.none
  | .bl b, u => u = Value.bool b
  | .int i, u => ∃ t, u = Value.int i t
  | .str x, u => ∃ t, u = Value.str x t
  | .byt b, u => ∃ t, u = Value.bytes b t
  | .flt b, u => ∃ t, u = Value.float b t
  | .ref a, u => u = Value.ref a
  | .ty n, u => u = Value.type n

abbrev Vals : List V → List Value → Prop := Paired RelV
theorem Vals.length {xs : List V} {us : List Value} (r : Vals xs us) : xs.length = us.length := Paired.length r
theorem Vals.get : ∀ {xs : List V} {us : List Value} {i : Nat} {x : V}, Vals xs us → xs[i]? = some x → ∃ u, us[i]? = some u ∧ RelV x u
  | _, _, _, _, .nil, e => by simp at e
  | _, _, 0, _, .cons r _, e => by simp at e; subst e; exact ⟨_, rfl, r⟩
  | _, _, i + 1, x, .cons _ t, e => by
    obtain ⟨u, h1, h2⟩ := Vals.get (i := i) (x := x) t (by simpa using e)
    exact ⟨u, by simpa using h1, h2⟩
theorem Vals.set {x : V} {u : Value} (r : RelV x u) : ∀ {xs : List V} {us : List Value} (i : Nat), Vals xs us → Vals (xs.set i x) (us.set i u)
  | _, _, _, .nil => .nil
  | _, _, 0, .cons _ t => .cons r t
  | _, _, i + 1, .cons q t => .cons q (Vals.set r i t)
theorem Vals.append : ∀ {xs ys : List V} {us ws : List Value}, Vals xs us → Vals ys ws → Vals (xs ++ ys) (us ++ ws)
  | _, _, _, _, .nil, s => s
  | _, _, _, _, .cons r t, s => .cons r (Vals.append t s)

def RelO : Option V → Option Value → Prop
  | some v, some u => RelV v u
  | none, none => True
  | _, _ => False
def KV {κ : Type} : List (κ × V) → List (κ × Value) → Prop := Paired fun (p : κ × V) (q : κ × Value) => p.1 = q.1 ∧ RelV p.2 q.2

/-- a key of a dict (00_mix): an int or a text -/
def kV : Key → V
  | .inl i => .int i
  | .inr x => .str x

/-- what stands at a tracked address -/
inductive HO where
  /-- a list -/
  | lst (xs : List V)
  /-- a tuple (never changes) -/
  | tup (xs : List V)
  /-- a dict whose keys are ints and texts; one whose keys are tuples of ints and texts (the empty one is both) -/
  | dK (kvs : List (Key × V)) | dT (kvs : List (List Key × V))
  /-- a set of ints: its members, its size -/
  | set (S : Int → Bool) (n : Nat)
  /-- an instance of the class at C, its dict at dx, its attributes -/
  | ins (C dx : Addr) (fs : List (Str × V))
  /-- the dict of the instance at x -/
  | own (x : Addr)
  /-- the dict of an exception -/
  | xd (fs : List (Str × V))
  /-- a bound method, f of x -/
  | met (f x : Addr)
  /-- a range object lo, lo + 1, .. below hi -/
  | rng (lo hi : Int)
  /-- a thing that is known to the object (the script; a dict while a loop walks it): read, never written while it is so -/
  | frz (o : Obj) (u : HO)
  /-- a code object's table -/
  | tbl (ps : Array Value)
  /-- any other thing, by what is true of its one object (a def of one's own: SetO a S n := HO.ext fun h => ..) -/
  | ext (φ : Heap → Prop)

abbrev Hp := Addr → Option HO
def upd (H : Hp) (a : Addr) (o : HO) : Hp := fun b => if b = a then some o else H b
theorem upd_same {H : Hp} {a : Addr} {o : HO} : upd H a o a = some o := by unfold upd; rw [if_pos rfl]
theorem upd_ne {H : Hp} {a b : Addr} {o : HO} (h : b ≠ a) : upd H a o b = H b := by unfold upd; rw [if_neg h]
theorem upd_upd {H : Hp} {a : Addr} {o u : HO} : upd (upd H a o) a u = upd H a u := by
  funext b; unfold upd; split <;> rfl
/-- two objects of different content stand apart -/
theorem ne_of {H : Hp} {a b : Addr} {o u : HO} (h : H a = some o) (h' : H b = some u) (d : o ≠ u) : a ≠ b := by
  intro e; subst e; rw [h] at h'; exact d (Option.some.inj h')
theorem ne_of_none {H : Hp} {a b : Addr} {o : HO} (h : H a = some o) (h' : H b = none) : a ≠ b := by
  intro e; subst e; rw [h] at h'; cases h'

section
variable (P : Program) (w : World)
def ObjOk (H : Hp) (h : Heap) (a : Addr) : HO → Prop
  | .lst xs => xs.length ≤ sizeLine ∧ ∃ (its : List Value) (n : Nat), Vals xs its ∧ h.get? a = some { cls := .type "list", data := .seq its.toArray n }
  | .tup xs => xs.length ≤ sizeLine ∧ ∃ its : List Value, Vals xs its ∧ IsTup h a its.toArray
  | .dK kvs => kvs.length ≤ sizeLine ∧ (a == sysModules) = false ∧ ∃ vs, KV kvs vs ∧ h.DictOf (mixKind P w) a vs
  | .dT kvs => kvs.length ≤ sizeLine ∧ (a == sysModules) = false ∧ ∃ xs : List (List Key × Addr × Value),
      Paired (fun (p : List Key × V) (q : List Key × Addr × Value) => p.1 = q.1 ∧ H q.2.1 = some (.tup (p.1.map kV)) ∧ RelV p.2 q.2.2) kvs xs ∧
      ∃ o es ep, h.get? a = some o ∧ o.ExactDict ∧ o.data = .dict es ep ∧ es.toList = xs.map (entryOfKey (tupleKind (mixKind P w))) ∧ (xs.map (·.1)).Nodup
  | .set S n => h.SetOf (intKind P w) a S n
  | .ins C dx fs => H dx = some (.own a) ∧ fs.length ≤ 1000 ∧ dx ≠ a ∧ h.get? a = some (PySem.W.instObj C dx) ∧
      ∃ mA, h.Ns1 dx mA ∧ (∀ f, RelO (fs.lookup f) (mA f)) ∧ PySem.Within mA (fs.map (·.1))
  | .own _ => ∃ o, h.get? a = some o
  | .xd fs => ∃ mA, h.Ns1 a mA ∧ ∀ f, RelO (fs.lookup f) (mA f)
  | .rng lo hi => ∃ t u v, h.get? a = some { cls := .type "range", data := .fields #[.int lo t, .int hi u, .int 1 v] }
  | .frz o u => h.get? a = some o ∧ ObjOk H h a u
  | .tbl ps => h.get? a = some { cls := .none, data := .fields ps }
  | .met f x => h.get? a = some (PySem.W.methodObj (.ref f) (.ref x))
  | .ext φ => φ h ∧ (∃ o, h.get? a = some o) ∧ ∀ h1 h2 : Heap, φ h1 → (∀ o, h1.get? a = some o → h2.get? a = some o) → φ h2
/-- the abstract heap is held -/
def HOk (H : Hp) (h : Heap) : Prop := ∀ a o, H a = some o → ObjOk P w H h a o
end

section
variable {P : Program} {w : World} {H H' : Hp} {h h' : Heap} {a : Addr} {o : HO}
theorem ObjOk.lt (x : ObjOk P w H h a o) : a < h.objs.size := by
  cases o with
  | lst xs => obtain ⟨_, _, _, _, e⟩ := x; exact Heap.lt_size e
  | tup xs => obtain ⟨_, _, _, p⟩ := x; exact p.lt
  | dK kvs => obtain ⟨_, _, _, _, o, _, _, e, _⟩ := x; exact Heap.lt_size e
  | dT kvs => obtain ⟨_, _, _, _, o, _, _, e, _⟩ := x; exact Heap.lt_size e
  | set S n => obtain ⟨o, _, _, _, e, _⟩ := x; exact Heap.lt_size e
  | ins C dx fs => obtain ⟨_, _, _, e, _⟩ := x; exact Heap.lt_size e
  | own y => obtain ⟨_, e⟩ := x; exact Heap.lt_size e
  | xd fs => obtain ⟨_, ⟨_, _, _, e, _⟩, _⟩ := x; exact Heap.lt_size e
  | rng lo hi => obtain ⟨_, _, _, e⟩ := x; exact Heap.lt_size e
  | frz ob u => obtain ⟨e, _⟩ := x; exact Heap.lt_size e
  | tbl ps => exact Heap.lt_size (show h.get? a = some _ from x)
  | met f y => exact Heap.lt_size (show h.get? a = some _ from x)
  | ext φ => obtain ⟨_, ⟨_, e⟩, _⟩ := x; exact Heap.lt_size e
theorem Paired.mapP {α β : Type} {F G : α → β → Prop} : ∀ {l₁ : List α} {l₂ : List β}, Paired F l₁ l₂ → (∀ a b, F a b → G a b) → Paired G l₁ l₂
  | _, _, .nil, _ => .nil
  | _, _, .cons r t, f => .cons (f _ _ r) (Paired.mapP t f)
/-- what an object's description leans on: its own object, its own dict, the tuples -/
theorem ObjOk.stay (x : ObjOk P w H h a o) (k : ∀ b u, (b = a ∨ H b = some (.own a)) → h.get? b = some u → h'.get? b = some u)
    (ho : ∀ b, H b = some (.own a) → H' b = some (.own a)) (ht : ∀ b xs, H b = some (.tup xs) → H' b = some (.tup xs)) : ObjOk P w H' h' a o := by
  induction o with
  | lst xs => obtain ⟨z, its, n, r, e⟩ := x; exact ⟨z, its, n, r, k _ _ (.inl rfl) e⟩
  | tup xs => obtain ⟨z, its, r, ob, e, c⟩ := x; exact ⟨z, its, r, ob, k _ _ (.inl rfl) e, c⟩
  | dK kvs => obtain ⟨z, y, vs, r, ob, es, ep, e, c⟩ := x; exact ⟨z, y, vs, r, ob, es, ep, k _ _ (.inl rfl) e, c⟩
  | dT kvs =>
    obtain ⟨z, y, xs, r, ob, es, ep, e, c⟩ := x
    exact ⟨z, y, xs, Paired.mapP r fun p q z => ⟨z.1, ht _ _ z.2.1, z.2.2⟩, ob, es, ep, k _ _ (.inl rfl) e, c⟩
  | set S n => obtain ⟨ob, es, ep, t, e, c⟩ := x; exact ⟨ob, es, ep, t, k _ _ (.inl rfl) e, c⟩
  | ins C dx fs =>
    obtain ⟨d, z, ne, e, mA, ⟨od, es, ep, e2, c⟩, r⟩ := x
    exact ⟨ho _ d, z, ne, k _ _ (.inl rfl) e, mA, ⟨od, es, ep, k _ _ (.inr d) e2, c⟩, r⟩
  | own y => obtain ⟨ob, e⟩ := x; exact ⟨ob, k _ _ (.inl rfl) e⟩
  | xd fs => obtain ⟨mA, ⟨od, es, ep, e, c⟩, r⟩ := x; exact ⟨mA, ⟨od, es, ep, k _ _ (.inl rfl) e, c⟩, r⟩
  | rng lo hi => obtain ⟨t, u, v, e⟩ := x; exact ⟨t, u, v, k _ _ (.inl rfl) e⟩
  | frz ob u ih => obtain ⟨e, q⟩ := x; exact ⟨k _ _ (.inl rfl) e, ih q⟩
  | tbl ps =>
    have e : h.get? a = some { cls := .none, data := .fields ps } := x
    show h'.get? a = some { cls := .none, data := .fields ps }
    exact k a _ (.inl rfl) e
  | met f y =>
    have e : h.get? a = some (PySem.W.methodObj (.ref f) (.ref y)) := x
    show h'.get? a = some (PySem.W.methodObj (.ref f) (.ref y))
    exact k a _ (.inl rfl) e
  | ext φ => obtain ⟨p, ⟨o, e⟩, st⟩ := x; exact ⟨st _ _ p fun o q => k _ _ (.inl rfl) q, ⟨o, k _ _ (.inl rfl) e⟩, st⟩
theorem HOk.lt (x : HOk P w H h) (e : H a = some o) : a < h.objs.size := (x a o e).lt
theorem HOk.fresh (x : HOk P w H h) (e : h.objs.size ≤ a) : H a = none := by
  cases q : H a with
  | none => rfl
  | some u => exact absurd (Nat.lt_of_lt_of_le (x.lt q) e) (Nat.lt_irrefl _)
/-- every object of the heap is kept -/
theorem HOk.kept (x : HOk P w H h) (k : ∀ b u, h.get? b = some u → h'.get? b = some u) : HOk P w H h' := fun a o e =>
  (x a o e).stay (fun b u _ q => k b u q) (fun _ q => q) fun _ _ q => q
/-- a new object is laid and tracked -/
theorem HOk.laid (x : HOk P w H h) (k : ∀ b u, h.get? b = some u → h'.get? b = some u) (hp : h.objs.size ≤ a) (new : ObjOk P w (upd H a o) h' a o) : HOk P w (upd H a o) h' := fun b u e => by
  have hn := x.fresh hp
  by_cases hb : b = a
  · subst hb; rw [upd_same] at e; cases e; exact new
  · rw [upd_ne hb] at e
    exact (x b u e).stay (fun c v _ q => k c v q) (fun c q => by rw [upd_ne (ne_of_none q hn)]; exact q) fun c xs q => by rw [upd_ne (ne_of_none q hn)]; exact q
end

/-- what may be read as u: it is u, or a known u -/
def Rd (H : Hp) (a : Addr) (u : HO) : Prop := H a = some u ∨ ∃ o, H a = some (.frz o u)
theorem Rd.ok {P : Program} {w : World} {H : Hp} {h : Heap} {a : Addr} {u : HO} (r : Rd H a u) (x : HOk P w H h) : ObjOk P w H h a u := by
  rcases r with r | ⟨o, r⟩
  · exact x a u r
  · obtain ⟨_, q⟩ := x a _ r
    exact q
/-- what may be written -/
def Mut : Option HO → Prop
  | some (.lst _) => True
  | some (.dK _) => True
  | some (.dT _) => True
  | some (.set _ _) => True
  | some (.ins _ _ _) => True
  | some (.ext _) => True
  | _ => False
section
variable {P : Program} {w : World} {H : Hp} {h h' : Heap} {x e : Addr} {o' : HO}
/-- the object at e is changed: x itself, or the dict of the instance x -/
theorem HOk.write (ok : HOk P w H h) (mu : Mut (H x)) (he : e = x ∨ H e = some (.own x)) (k : ∀ b u, b ≠ e → h.get? b = some u → h'.get? b = some u) (heo : ∃ u, h'.get? e = some u)
    (new : ObjOk P w (upd H x o') h' x o') : HOk P w (upd H x o') h' := fun b u q => by
  have nown : ∀ c y, H c = some (.own y) → c ≠ x := fun c y r z => by subst z; rw [r] at mu; exact mu
  have ntup : ∀ c xs, H c = some (.tup xs) → c ≠ x := fun c xs r z => by subst z; rw [r] at mu; exact mu
  by_cases hb : b = x
  · subst hb; rw [upd_same] at q; cases q; exact new
  · rw [upd_ne hb] at q
    by_cases hbe : b = e
    · have q' : H b = some (.own x) := by
        rcases he with z | z
        · exact absurd (hbe.trans z) hb
        · rw [hbe]; exact z
      rw [q] at q'; cases q'
      obtain ⟨v, hv⟩ := heo
      exact ⟨v, by rw [hbe]; exact hv⟩
    · refine (ok b u q).stay (fun c v hc r => k c v ?_ r) (fun c r => by rw [upd_ne (nown c b r)]; exact r) fun c xs r => by rw [upd_ne (ntup c xs r)]; exact r
      rcases hc with rfl | hc
      · exact hbe
      · rintro rfl
        rcases he with z | z
        · exact nown c b hc z
        · rw [hc] at z; cases z; exact hb rfl
end

/-! ### kept unless tracked; of the frames at fs (the callers') the slots may change (an exception that passes writes there); of the records at ex (iterators) nothing is said -/
structure Un (fs ex : List Addr) (H H' : Hp) (h h' : Heap) : Prop where
  keep : ∀ b o, h.get? b = some o → H b = none → b ∉ fs → b ∉ ex → h'.get? b = some o
  slot : ∀ b o, h.get? b = some o → H b = none → b ∈ fs → b ∉ ex → ∃ sl, h'.get? b = some { o with slots := sl }
  free : ∀ b o, h.get? b = some o → H b = none → b ∉ ex → H' b = none
  there : ∀ b o, h.get? b = some o → b ∉ ex → ∃ o', h'.get? b = some o'
  tups : ∀ b xs, H b = some (.tup xs) → H' b = some (.tup xs)
  frzs : ∀ b o u, H b = some (.frz o u) → H' b = some (.frz o u)
  tbls : ∀ b ps, H b = some (.tbl ps) → ∃ more, H' b = some (.tbl (ps ++ more))
section
variable {fs fs' ex ex' : List Addr} {H H1 H2 : Hp} {h h1 h2 h' : Heap} {a x e : Addr} {o : HO}
theorem Un.any (u : Un fs ex H H1 h h1) {b : Addr} {ob : Obj} (q : h.get? b = some ob) (n : H b = none) (hx : b ∉ ex) : ∃ sl, h1.get? b = some { ob with slots := sl } := by
  by_cases hb : b ∈ fs
  · exact u.slot b ob q n hb hx
  · exact ⟨ob.slots, u.keep b ob q n hb hx⟩
theorem Un.kept (k : ∀ b u, h.get? b = some u → h'.get? b = some u) : Un fs ex H H h h' :=
  ⟨fun b ob q _ _ _ => k b ob q, fun b ob q _ _ _ => ⟨ob.slots, k b ob q⟩, fun _ _ _ n _ => n, fun b ob q _ => ⟨ob, k b ob q⟩, fun _ _ q => q, fun _ _ _ q => q, fun _ ps q => ⟨#[], by rw [q]; simp⟩⟩
theorem Un.refl : Un fs ex H H h h := Un.kept fun _ _ q => q
theorem Un.laid (k : ∀ b u, h.get? b = some u → h'.get? b = some u) (hp : h.objs.size ≤ a) (hn : H a = none) : Un fs ex H (upd H a o) h h' where
  keep := fun b u q _ _ _ => k b u q
  slot := fun b u q _ _ _ => ⟨u.slots, k b u q⟩
  free := fun b u q n _ => by rw [upd_ne (Nat.ne_of_lt (Nat.lt_of_lt_of_le (Heap.lt_size q) hp))]; exact n
  there := fun b u q _ => ⟨u, k b u q⟩
  tups := fun b xs q => by rw [upd_ne (ne_of_none q hn)]; exact q
  frzs := fun b u xs q => by rw [upd_ne (ne_of_none q hn)]; exact q
  tbls := fun b ps q => ⟨#[], by rw [upd_ne (ne_of_none q hn), q]; simp⟩
theorem Un.write (mu : Mut (H x)) (he : e = x ∨ H e = some (.own x)) (k : ∀ b u, b ≠ e → h.get? b = some u → h'.get? b = some u) (heo : ∃ u, h'.get? e = some u) : Un fs ex H (upd H x o) h h' := by
  have hx : ∀ b, H b = none → b ≠ x := fun b n z => by subst z; rw [n] at mu; exact mu
  have hb : ∀ b, H b = none → b ≠ e := fun b n z => by
    subst z
    rcases he with r | r
    · exact hx b n r
    · rw [n] at r; cases r
  have hm : ∀ b u, H b = some u → ¬ Mut (some u) → b ≠ x := fun b u q nm z => by subst z; rw [q] at mu; exact nm mu
  refine ⟨fun b u q n _ _ => k b u (hb b n) q, fun b u q n _ _ => ⟨u.slots, k b u (hb b n) q⟩, fun b u q n _ => by rw [upd_ne (hx b n)]; exact n, fun b u q _ => ?_,
    fun b xs q => by rw [upd_ne (hm b _ q fun z => z)]; exact q, fun b u xs q => by rw [upd_ne (hm b _ q fun z => z)]; exact q, fun b ps q => ⟨#[], by rw [upd_ne (hm b _ q fun z => z), q]; simp⟩⟩
  by_cases hbe : b = e
  · subst hbe; exact heo
  · exact ⟨u, k b u hbe q⟩
end

/-! ### the heap without what is tracked -/
def trk (h : Heap) (H : Hp) : List Addr := (List.range h.objs.size).filter fun a => (H a).isSome
def hidT (h : Heap) (H : Hp) : Heap := PySem.W.hideAll h (trk h H)
theorem hidT_size (h : Heap) (H : Hp) : (hidT h H).objs.size = h.objs.size := PySem.W.hideAll_size _ _
theorem hidT_get {h : Heap} {H : Hp} {b : Addr} {o : Obj} (e : h.get? b = some o) (n : H b = none) : (hidT h H).get? b = some o :=
  PySem.W.hideAll_get _ e fun hm => by
    have q : (H b).isSome = true := (List.mem_filter.mp hm).2
    rw [n] at q; simp at q
theorem of_hidT {h : Heap} {H : Hp} {b : Addr} {o : Obj} (e : (hidT h H).get? b = some o) : h.get? b = some o ∧ H b = none := by
  have e' : h.get? b = some o := PySem.W.of_hideAll (trk h H) e
  refine ⟨e', ?_⟩
  cases q : H b with
  | none => rfl
  | some x =>
    have hm : b ∈ trk h H := List.mem_filter.mpr ⟨List.mem_range.mpr (Heap.lt_size e'), by simp [q]⟩
    have z : (hidT h H).get? b = none := PySem.W.hideAll_none (trk h H) hm
    rw [z] at e; cases e

/-! ### OpenK's ledger, filled with every new object but one -/
def allNews (g h : Heap) (L : Addr) : List (Addr × Obj) := (List.range h.objs.size).filterMap fun a => if a = L ∨ (g.get? a).isSome = true then none else (h.get? a).map fun o => (a, o)
def rest (g h : Heap) (L d : Addr) : List (Addr × Obj) := (allNews g h L).filter fun p => decide (p.1 ≠ d)
end L2

namespace L2
open PySem PySem.Spec PyProof.Rows

/-- the module's facts, over the base: the heap at the law's entry without what is tracked there -/
structure Mod (K : PySem.W.Frag) (mg : Str → Option Value) (base : Heap) : Prop where
  kin : K.In base
  glob : base.Ns mainGlobals mg
  blt : ∃ mb, base.Ns builtinsNs mb ∧ ∀ x : Str, x ≠ "__name__" → mb x = bootBuiltins x
  nolimit : base.NoLimit

/-- the context: a def's body (or a comprehension's block) running. base: fixed through the whole law; s₀, H₀: the entry; outer: the frames whose slots others may change (a def's callers); stack: all frames that run;
   ex: iterators that were made ahead of the entry and are walked here (a comprehension's); fn: the names whose cells were made at the entry (a def: all; a comprehension's block: its own); calm: not within an except suite; pn: pins that every state bears; xe: what is wanted of an exception that leaves the code -/
structure Cx where
  prog : Program
  w : World
  K : PySem.W.Frag
  mg : Str → Option Value
  base : Heap
  A : Around
  N : List Str
  s₀ : Shared
  H₀ : Hp
  env : Env
  outer : List Env
  stack : List Env
  ex : List Addr
  fn : Str → Bool
  calm : Bool
  pn : List (Addr × Obj)
  xe : Value → Shared → Prop
/-- the callers' frames -/
def frs (l : List Env) : List Addr := l.filterMap (·.frame)
abbrev Cx.fs (X : Cx) : List Addr := frs X.outer

def Vis (sc : Scope) (x : Str) : Prop := sc.names.lookup x = some .local ∨ sc.names.lookup x = some .cell ∨ sc.names.lookup x = some .free
def Loc (sc : Scope) (x : Str) : Prop := sc.names.lookup x = some .local ∨ sc.names.lookup x = some .cell
def Look (env : Env) (h : Heap) (m : Str → Option Value) (x : Str) (u : Value) : Prop :=
  (env.kindOf x = some .local ∧ m x = some u) ∨ ((env.kindOf x = some .cell ∨ env.kindOf x = some .free) ∧ ∃ c, env.cells.lookup x = some c ∧ h.IsCell c (some u))

structure Cx.Ok (X : Cx) : Prop where
  mod : Mod X.K X.mg X.base
  kind : X.env.scope.kind = .function
  glob : X.env.globals = mainGlobals
  blt : X.env.builtins = builtinsNs
  above : X.s₀.heap.objs.size ≤ X.env.locals
  inj : ∀ x y c, X.env.cells.lookup x = some c → X.env.cells.lookup y = some c → x = y
  has : ∀ x, (X.env.kindOf x = some .cell ∨ X.env.kindOf x = some .free) → ∃ c, X.env.cells.lookup x = some c
  cab : ∀ x c, X.fn x = true → X.env.cells.lookup x = some c → X.s₀.heap.objs.size ≤ c
  hd : X.calm = true → X.A.handled = none
  frames : X.A.frames = some X.stack
  stk : X.stack = X.outer ∨ (X.stack = X.env :: X.outer ∧ X.env.frame = some X.env.locals)
  exf : ∀ b ∈ X.ex, b ≠ X.env.locals ∧ ∀ x c, X.env.cells.lookup x = some c → c ≠ b
  bs : ∀ b o, X.base.get? b = some o → X.s₀.heap.get? b = some o ∧ X.H₀ b = none
  bsz : X.base.objs.size ≤ X.s₀.heap.objs.size
  noex : ∀ b o, X.base.get? b = some o → b ∉ X.ex
  exfs : ∀ b ∈ X.ex, b ∉ X.fs
  funs : X.s₀.heap.FunFrames X.base X.outer
  frf : ∀ b ∈ X.fs, X.H₀ b = none

structure Inv (X : Cx) (pins : List (Addr × Obj)) (σ : List (Option V)) (H : Hp) (s : Shared) : Prop where
  ok : X.Ok
  os : s.os = X.s₀.os
  bare : AllBare s.gens
  base : Un X.fs X.ex X.H₀ H X.s₀.heap s.heap
  loc : ∃ m, s.heap.Ns X.env.locals m ∧ ∀ (i : Nat) (x : Str) (v : V), X.N[i]? = some x → σ[i]? = some (some v) → Vis X.env.scope x → ∃ u, RelV v u ∧ Look X.env s.heap m x u
  cell : ∀ x c, X.env.cells.lookup x = some c → ∃ v, s.heap.IsCell c v
  free : H X.env.locals = none
  freeC : ∀ x c, X.env.cells.lookup x = some c → H c = none
  pin : ∀ p ∈ X.pn ++ pins, s.heap.get? p.1 = some p.2 ∧ H p.1 = none ∧ p.1 ≠ X.env.locals ∧ p.1 ∉ X.fs ∧ ∀ v, p.2.data ≠ .cell v
  hok : HOk X.prog X.w H s.heap
  len : σ.length = X.N.length

section
variable {X : Cx} {pins : List (Addr × Obj)} {σ : List (Option V)} {H H' : Hp} {s : Shared} {h' : Heap}

theorem Cx.Ok.nofr (ok : X.Ok) {b : Addr} {o : Obj} (e : X.base.get? b = some o) : b ∉ X.fs := fun hb => by
  have := (ok.funs.mem hb).1
  rw [e] at this; cases this
theorem Inv.bs (I : Inv X pins σ H s) : ∀ b o, X.base.get? b = some o → s.heap.get? b = some o ∧ H b = none := fun b o e =>
  ⟨I.base.keep b o (I.ok.bs b o e).1 (I.ok.bs b o e).2 (I.ok.nofr e) (I.ok.noex b o e), I.base.free b o (I.ok.bs b o e).1 (I.ok.bs b o e).2 (I.ok.noex b o e)⟩
theorem Inv.bk (I : Inv X pins σ H s) : ∀ b o, X.base.get? b = some o → s.heap.get? b = some o := fun b o e => (I.bs b o e).1
theorem Inv.mod (I : Inv X pins σ H s) : Mod X.K X.mg X.base := I.ok.mod
theorem Inv.kIn (I : Inv X pins σ H s) : X.K.In s.heap := I.ok.mod.kin.keeps I.bk
theorem Inv.lt (I : Inv X pins σ H s) : X.env.locals < s.heap.objs.size := let ⟨_, hn, _⟩ := I.loc; hn.lt
theorem Inv.sz (I : Inv X pins σ H s) : X.s₀.heap.objs.size ≤ s.heap.objs.size := Nat.le_trans I.ok.above (Nat.le_of_lt I.lt)
theorem Inv.nofs (I : Inv X pins σ H s) {a : Addr} (h : s.heap.objs.size ≤ a) : a ∉ X.fs := fun hb => by
  obtain ⟨_, o, ho, _⟩ := I.ok.funs.mem hb
  exact absurd (Nat.lt_of_lt_of_le (Heap.lt_size ho) (Nat.le_trans I.sz h)) (Nat.lt_irrefl _)
theorem Inv.cne (I : Inv X pins σ H s) : ∀ x c, X.env.cells.lookup x = some c → c ≠ X.env.locals := fun x c e z => by
  obtain ⟨v, o, ho, hd⟩ := I.cell x c e
  obtain ⟨m, ⟨o', es, ep, ho', hd', _⟩, _⟩ := I.loc
  rw [z, ho'] at ho; cases ho; rw [hd'] at hd; cases hd
theorem Inv.funs (I : Inv X pins σ H s) : s.heap.FunFrames X.base X.outer := by
  have all : ∀ (l : List Env), (∀ b ∈ frs l, b ∈ X.fs) → X.s₀.heap.FunFrames X.base l → s.heap.FunFrames X.base l := by
    intro l
    induction l with
    | nil => intro _ _; trivial
    | cons env r ih =>
      intro hs hl
      obtain ⟨hk, ⟨L, o, hf, hn, ho, hd⟩, hr⟩ := hl
      have hL : L ∈ X.fs := hs L (by unfold frs; rw [List.filterMap_cons, hf]; exact List.mem_cons_self)
      obtain ⟨sl, e⟩ := I.base.slot L o ho (I.ok.frf L hL) hL fun z => I.ok.exfs L z hL
      exact ⟨hk, ⟨L, _, hf, hn, e, hd⟩, ih (fun b hb => hs b (by unfold frs; rw [List.filterMap_cons, hf]; exact List.mem_cons_of_mem _ hb)) hr⟩
  exact all X.outer (fun _ hb => hb) I.ok.funs

/-- the frames that run, for a call -/
theorem Inv.stack (I : Inv X pins σ H s) : s.heap.FunFrames X.base X.stack := by
  rcases I.ok.stk with e | ⟨e, hf⟩
  · rw [e]; exact I.funs
  · rw [e]
    obtain ⟨m, hn, _⟩ := I.loc
    refine .cons (by rw [I.ok.kind]; decide) hf hn ?_ I.funs
    exact Heap.get?_none_of_le (Nat.le_trans I.ok.bsz I.ok.above)
theorem Inv.stkSub (I : Inv X pins σ H s) : ∀ b ∈ frs X.stack, b ∈ X.env.locals :: X.fs := fun b hb => by
  rcases I.ok.stk with e | ⟨e, hf⟩
  · rw [e] at hb; exact List.mem_cons_of_mem _ hb
  · rw [e] at hb
    unfold frs at hb
    rw [List.filterMap_cons, hf] at hb
    exact hb
theorem Inv.stkFree (I : Inv X pins σ H s) : ∀ b ∈ frs X.stack, H b = none := fun b hb => by
  rcases List.mem_cons.mp (I.stkSub b hb) with e | hb
  · rw [e]; exact I.free
  · obtain ⟨_, o, ho, _⟩ := I.ok.funs.mem hb
    exact I.base.free b o ho (I.ok.frf b hb) fun z => I.ok.exfs b z hb

/-- THE STEP: the untracked objects but the frame and the records at ch are kept (the callers' frames up to slots), the frame's map is kept, the new abstract heap is held -/
theorem Inv.step {g' : Array GenState} {t' : Nat} {d' : Drawn} {ch : List Addr} (I : Inv X pins σ H s)
    (hch : ∀ b ∈ ch, (b ∈ X.ex ∨ X.s₀.heap.objs.size ≤ b) ∧ b ≠ X.env.locals ∧ (∀ x c, X.env.cells.lookup x = some c → c ≠ b) ∧ ∀ p ∈ X.pn ++ pins, p.1 ≠ b)
    (keep : ∀ b o, b ≠ X.env.locals → b ∉ X.fs → b ∉ ch → s.heap.get? b = some o → H b = none → h'.get? b = some o)
    (slot : ∀ b o, b ≠ X.env.locals → b ∈ X.fs → b ∉ ch → s.heap.get? b = some o → H b = none → ∃ sl, h'.get? b = some { o with slots := sl }) (free : ∀ b o, b ∉ ch → s.heap.get? b = some o → H b = none → H' b = none)
    (there : ∀ b o, b ∉ ch → s.heap.get? b = some o → ∃ o', h'.get? b = some o')
    (tups : ∀ b xs, H b = some (.tup xs) → H' b = some (.tup xs)) (frzs : ∀ b o u, H b = some (.frz o u) → H' b = some (.frz o u)) (tbls : ∀ b ps, H b = some (.tbl ps) → ∃ more, H' b = some (.tbl (ps ++ more)))
    (ns : ∀ m, s.heap.Ns X.env.locals m → h'.Ns X.env.locals m) (hok : HOk X.prog X.w H' h') (hg : AllBare g') :
    Inv X pins σ H' { s with heap := h', gens := g', drawn := d', toks := t' } := by
  have neL : ∀ b o, X.s₀.heap.get? b = some o → b ≠ X.env.locals := fun b o e => Nat.ne_of_lt (Nat.lt_of_lt_of_le (Heap.lt_size e) I.ok.above)
  have neC : ∀ b o, X.s₀.heap.get? b = some o → b ∉ X.ex → b ∉ ch := fun b o e hx hb => by
    rcases (hch b hb).1 with z | z
    · exact hx z
    · exact absurd (Nat.lt_of_lt_of_le (Heap.lt_size e) z) (Nat.lt_irrefl _)
  have cellK : ∀ x c, X.env.cells.lookup x = some c → ∀ v, s.heap.IsCell c v → h'.IsCell c v := fun x c e v ⟨o, ho, hd⟩ => by
    have nch : c ∉ ch := fun z => (hch c z).2.2.1 x c e rfl
    by_cases hc : c ∈ X.fs
    · obtain ⟨sl, q⟩ := slot c o (I.cne x c e) hc nch ho (I.freeC x c e)
      exact ⟨_, q, hd⟩
    · exact ⟨o, keep c o (I.cne x c e) hc nch ho (I.freeC x c e), hd⟩
  refine ⟨I.ok, I.os, hg, ⟨fun b o e n hb hx => ?_, fun b o e n hb hx => ?_, fun b o e n hx => ?_, fun b o e hx => ?_, fun b xs e => tups b xs (I.base.tups b xs e), fun b o xs e => frzs b o xs (I.base.frzs b o xs e), fun b ps e => ?_⟩, ?_, fun x c e => ?_, ?_, fun x c e => ?_, fun p hp => ?_, hok, I.len⟩
  · exact keep b o (neL b o e) hb (neC b o e hx) (I.base.keep b o e n hb hx) (I.base.free b o e n hx)
  · obtain ⟨sl, e1⟩ := I.base.slot b o e n hb hx
    obtain ⟨sl', e2⟩ := slot b _ (neL b o e) hb (neC b o e hx) e1 (I.base.free b o e n hx)
    exact ⟨sl', e2⟩
  · obtain ⟨o', e1⟩ := I.base.there b o e hx
    exact free b o' (neC b o e hx) e1 (I.base.free b o e n hx)
  · obtain ⟨o', e1⟩ := I.base.there b o e hx
    exact there b o' (neC b o e hx) e1
  · obtain ⟨m1, e1⟩ := I.base.tbls b ps e
    obtain ⟨m2, e2⟩ := tbls b _ e1
    exact ⟨m1 ++ m2, by rw [e2, Array.append_assoc]⟩
  · obtain ⟨m, hn, hl⟩ := I.loc
    refine ⟨m, ns m hn, fun i x v e1 e2 e3 => ?_⟩
    obtain ⟨u, r, l⟩ := hl i x v e1 e2 e3
    refine ⟨u, r, ?_⟩
    rcases l with l | ⟨k, c, e, z⟩
    · exact .inl l
    · exact .inr ⟨k, c, e, cellK x c e _ z⟩
  · obtain ⟨v, z⟩ := I.cell x c e
    exact ⟨v, cellK x c e v z⟩
  · obtain ⟨m, ⟨o, _, _, ho, _⟩, _⟩ := I.loc
    exact free _ o (fun z => (hch _ z).2.1 rfl) ho I.free
  · obtain ⟨v, o, ho, hd⟩ := I.cell x c e
    exact free c o (fun z => (hch c z).2.2.1 x c e rfl) ho (I.freeC x c e)
  · obtain ⟨e, n, ne, nf, d⟩ := I.pin p hp
    have nch : p.1 ∉ ch := fun z => (hch p.1 z).2.2.2 p hp rfl
    exact ⟨keep p.1 p.2 ne nf nch e n, free p.1 p.2 nch e n, ne, nf, d⟩
/-- .. where the frame's own object is kept too -/
theorem Inv.un {t' : Nat} (I : Inv X pins σ H s) (u : Un X.fs [] H H' s.heap h') (hok : HOk X.prog X.w H' h') : Inv X pins σ H' { s with heap := h', toks := t' } := by
  obtain ⟨m, ⟨o, es, ep, ho, r⟩, _⟩ := id I.loc
  obtain ⟨sl, hL⟩ := u.any ho I.free (by simp)
  exact I.step (g' := s.gens) (d' := s.drawn) (ch := []) (fun _ z => nomatch z) (fun b o _ hb _ e n => u.keep b o e n hb (by simp)) (fun b o _ hb _ e n => u.slot b o e n hb (by simp)) (fun b o _ e n => u.free b o e n (by simp)) (fun b o _ e => u.there b o e (by simp)) u.tups u.frzs u.tbls (fun m' hm => by
    obtain ⟨o', es', ep', ho', r'⟩ := hm
    rw [ho] at ho'; cases ho'
    exact ⟨_, es', ep', hL, r'⟩) hok I.bare
/-- behind a call (or a comprehension's block): the slots of this frame may have changed too, the records at ch may have turned -/
theorem Inv.call {g' : Array GenState} {t' : Nat} {d' : Drawn} {ch : List Addr} (I : Inv X pins σ H s) (u : Un (frs X.stack) ch H H' s.heap h') (hok : HOk X.prog X.w H' h') (hg : AllBare g')
    (hch : ∀ b ∈ ch, (b ∈ X.ex ∨ X.s₀.heap.objs.size ≤ b) ∧ b ≠ X.env.locals ∧ (∀ x c, X.env.cells.lookup x = some c → c ≠ b) ∧ ∀ p ∈ X.pn ++ pins, p.1 ≠ b) :
    Inv X pins σ H' { s with heap := h', gens := g', drawn := d', toks := t' } := by
  obtain ⟨m, ⟨o, es, ep, ho, r⟩, _⟩ := id I.loc
  obtain ⟨sl, hL⟩ := u.any ho I.free fun z => (hch _ z).2.1 rfl
  exact I.step (ch := ch) hch (fun b o hL hb hc e n => u.keep b o e n (fun z => (List.mem_cons.mp (I.stkSub b z)).elim hL hb) hc) (fun b o _ _ hc e n => u.any e n hc) (fun b o hc e n => u.free b o e n hc) (fun b o hc e => u.there b o e hc) u.tups u.frzs u.tbls (fun m' hm => by
    obtain ⟨o', es', ep', ho', r'⟩ := hm
    rw [ho] at ho'; cases ho'
    exact ⟨_, es', ep', hL, r'⟩) hok hg
/-- an untracked record of ours (an iterator) has turned -/
theorem Inv.turned {t' : Nat} {it : Addr} (I : Inv X pins σ H s) (k : ∀ b o, b ≠ it → s.heap.get? b = some o → h'.get? b = some o) (hn : H it = none) (hL : it ≠ X.env.locals)
    (h1 : it ∈ X.ex ∨ X.s₀.heap.objs.size ≤ it) (h2 : ∀ x c, X.env.cells.lookup x = some c → c ≠ it) (h3 : ∀ p ∈ X.pn ++ pins, p.1 ≠ it) : Inv X pins σ H { s with heap := h', toks := t' } := by
  have nit : ∀ b u, H b = some u → b ≠ it := fun b u e z => by rw [z, hn] at e; cases e
  refine I.step (g' := s.gens) (d' := s.drawn) (ch := [it]) (fun b hb => ?_) (fun b o _ _ hc e _ => k b o (fun z => hc (by simp [z])) e) (fun b o _ _ hc e _ => ⟨o.slots, k b o (fun z => hc (by simp [z])) e⟩) (fun _ _ _ _ n => n)
    (fun b o hc e => ⟨o, k b o (fun z => hc (by simp [z])) e⟩) (fun _ _ e => e) (fun _ _ _ e => e) (fun b ps e => ⟨#[], by rw [e]; simp⟩) (fun m hm => ?_) (fun b u e => ?_) I.bare
  · have e : b = it := by simpa using hb
    subst e
    exact ⟨h1, hL, h2, h3⟩
  · obtain ⟨o, es, ep, ho, r⟩ := hm
    exact ⟨o, es, ep, k _ o (Ne.symm hL) ho, r⟩
  · refine (I.hok b u e).stay (fun c v hc q => k c v ?_ q) (fun _ q => q) fun _ _ q => q
    rcases hc with z | z
    · rw [z]; exact nit b u e
    · exact nit c _ z
theorem Inv.tok (I : Inv X pins σ H s) (t : Nat) : Inv X pins σ H { s with toks := t } := I.un (h' := s.heap) (t' := t) Un.refl I.hok
/-- all objects kept -/
theorem Inv.kept {t' : Nat} (I : Inv X pins σ H s) (k : ∀ b u, s.heap.get? b = some u → h'.get? b = some u) : Inv X pins σ H { s with heap := h', toks := t' } := I.un (Un.kept k) (I.hok.kept k)
/-- a new object laid and tracked -/
theorem Inv.laid {a : Addr} {o : HO} {t' : Nat} (I : Inv X pins σ H s) (k : ∀ b u, s.heap.get? b = some u → h'.get? b = some u) (hp : s.heap.objs.size ≤ a) (new : ObjOk X.prog X.w (upd H a o) h' a o) :
    Inv X pins σ (upd H a o) { s with heap := h', toks := t' } := I.un (Un.laid k hp (I.hok.fresh hp)) (I.hok.laid k hp new)
/-- an object written -/
theorem Inv.write {x e : Addr} {o : HO} {t' : Nat} (I : Inv X pins σ H s) (mu : Mut (H x)) (he : e = x ∨ H e = some (.own x)) (k : ∀ b u, b ≠ e → s.heap.get? b = some u → h'.get? b = some u) (heo : ∃ u, h'.get? e = some u)
    (new : ObjOk X.prog X.w (upd H x o) h' x o) : Inv X pins σ (upd H x o) { s with heap := h', toks := t' } := I.un (Un.write mu he k heo) (I.hok.write mu he k heo new)
/-- forgetting slots, pins -/
theorem Inv.weak {σ' : List (Option V)} (I : Inv X pins σ H s) (hl : σ'.length = σ.length) (w : ∀ (i : Nat) v, σ'[i]? = some (some v) → σ[i]? = some (some v)) : Inv X pins σ' H s :=
  ⟨I.ok, I.os, I.bare, I.base, let ⟨m, hn, hl'⟩ := I.loc; ⟨m, hn, fun i x v e1 e2 e3 => hl' i x v e1 (w i v e2) e3⟩, I.cell, I.free, I.freeC, I.pin, I.hok, hl.trans I.len⟩
theorem Inv.pins_of {pins' : List (Addr × Obj)} (I : Inv X pins σ H s) (h : ∀ p ∈ pins', s.heap.get? p.1 = some p.2 ∧ H p.1 = none ∧ p.1 ≠ X.env.locals ∧ p.1 ∉ X.fs ∧ ∀ v, p.2.data ≠ .cell v) : Inv X pins' σ H s :=
  ⟨I.ok, I.os, I.bare, I.base, I.loc, I.cell, I.free, I.freeC, fun p hp => (List.mem_append.mp hp).elim (fun z => I.pin p (List.mem_append_left _ z)) (h p), I.hok, I.len⟩

theorem nodup_ix {N : List Str} (hN : N.Nodup) {i j : Nat} {x : Str} (a : N[i]? = some x) (b : N[j]? = some x) : i = j := by
  obtain ⟨h1, e1⟩ := List.getElem?_eq_some_iff.mp a
  obtain ⟨h2, e2⟩ := List.getElem?_eq_some_iff.mp b
  exact (List.getElem_inj hN).mp (e1.trans e2.symm)

/-- a name is stored; what changed -/
theorem store_ok2 {M : Model} {A : Around} {E : Value → Shared → Prop} {i : Nat} {x : Str} {v : V} {u : Value} {Q : Unit → Shared → Prop} (I : Inv X pins σ H s) (hN : X.N.Nodup) (hi : X.N[i]? = some x) (hx : Loc X.env.scope x) (r : RelV v u)
    (h : ∀ s', Inv X pins (σ.set i (some v)) H s' → (∃ a, Heap.SameBut a s.heap s'.heap ∧ (a = X.env.locals ∨ X.env.cells.lookup x = some a)) → Q () s') (hf : X.fn x = true ∨ X.env.scope.names.lookup x = some .local := by first | exact .inl rfl | exact .inr rfl | assumption) : wpAny M A (storeName X.env x u) Q E s := by
  obtain ⟨m, hn, hl⟩ := id I.loc
  have hcls : (X.env.scope.kind == .class || (X.env.scope.kind == .module && X.env.locals != X.env.globals)) = false := by rw [I.ok.kind]; rfl
  have hiσ : i < σ.length := by rw [I.len]; exact (List.getElem?_eq_some_iff.mp hi).1
  have cne := I.cne
  have tracked : ∀ {a : Addr} {h' : Heap}, (∃ o, s.heap.get? a = some o ∧ H a = none) → Heap.SameBut a s.heap h' → HOk X.prog X.w H h' := fun {a h'} ha hs b ob e => by
    obtain ⟨_, _, hfree⟩ := ha
    refine (I.hok b ob e).stay (fun c w' hc q => (hs.2 c ?_).trans q) (fun _ q => q) fun _ _ q => q
    rintro rfl
    rcases hc with rfl | hc
    · rw [hfree] at e; cases e
    · rw [hfree] at hc; cases hc
  rcases hx with hk | hk
  · refine wpAny_storeName_local hk hn (fun h' hn' hs => ?_) hcls
    obtain ⟨oL, _, _, hoL, _⟩ := id hn
    refine h _ ⟨I.ok, I.os, I.bare, ⟨fun b o e n hb hx => ?_, fun b o e n hb hx => ?_, I.base.free, fun b o e hx => ?_, I.base.tups, I.base.frzs, I.base.tbls⟩, ⟨_, hn', fun j y v' e1 e2 e3 => ?_⟩, fun y c e => ?_, I.free, I.freeC, fun p hp => ?_, tracked ⟨oL, hoL, I.free⟩ hs, by simpa using I.len⟩ ⟨_, hs, .inl rfl⟩
    · exact (hs.2 b (Nat.ne_of_lt (Nat.lt_of_lt_of_le (Heap.lt_size e) I.ok.above))).trans (I.base.keep b o e n hb hx)
    · obtain ⟨sl, e1⟩ := I.base.slot b o e n hb hx
      exact ⟨sl, (hs.2 b (Nat.ne_of_lt (Nat.lt_of_lt_of_le (Heap.lt_size e) I.ok.above))).trans e1⟩
    · obtain ⟨o', e1⟩ := I.base.there b o e hx
      exact ⟨o', (hs.2 b (Nat.ne_of_lt (Nat.lt_of_lt_of_le (Heap.lt_size e) I.ok.above))).trans e1⟩
    · by_cases hj : j = i
      · subst hj
        rw [hi] at e1; cases e1
        rw [List.getElem?_set_self hiσ] at e2
        cases e2
        exact ⟨u, r, .inl ⟨hk, by simp⟩⟩
      · rw [List.getElem?_set_ne (Ne.symm hj)] at e2
        obtain ⟨u', r', q⟩ := hl j y v' e1 e2 e3
        refine ⟨u', r', ?_⟩
        rcases q with ⟨k, e⟩ | ⟨k, c, e, z⟩
        · refine .inl ⟨k, ?_⟩
          have : y ≠ x := fun e => hj (nodup_ix hN e1 (e ▸ hi))
          simp [this, e]
        · exact .inr ⟨k, c, e, z.sameBut hs (cne y c e)⟩
    · obtain ⟨w', z⟩ := I.cell y c e
      exact ⟨w', z.sameBut hs (cne y c e)⟩
    · obtain ⟨e, n, ne, nf, d⟩ := I.pin p hp
      exact ⟨(hs.2 p.1 ne).trans e, n, ne, nf, d⟩
  · have hfn : X.fn x = true := by
      rcases hf with z | z
      · exact z
      · rw [z] at hk; cases hk
    obtain ⟨c, hc⟩ := I.ok.has x (.inl hk)
    obtain ⟨w', z⟩ := I.cell x c hc
    refine wpAny_storeName_cell I.ok.kind hk hc z (fun h' hc' hs => ?_)
    obtain ⟨oc, hoc, hocd⟩ := id z
    refine h { s with heap := h' } ⟨I.ok, I.os, I.bare, ⟨fun b o e n hb hx => ?_, fun b o e n hb hx => ?_, I.base.free, fun b o e hx => ?_, I.base.tups, I.base.frzs, I.base.tbls⟩, ⟨m, hn.sameBut hs (Ne.symm (cne x c hc)), fun j y v' e1 e2 e3 => ?_⟩, fun y c' e => ?_, I.free, I.freeC, fun p hp => ?_, tracked ⟨oc, hoc, I.freeC x c hc⟩ hs, by simpa using I.len⟩ ⟨c, hs, .inr hc⟩
    · exact (hs.2 b (Nat.ne_of_lt (Nat.lt_of_lt_of_le (Heap.lt_size e) (I.ok.cab x c hfn hc)))).trans (I.base.keep b o e n hb hx)
    · obtain ⟨sl, e1⟩ := I.base.slot b o e n hb hx
      exact ⟨sl, (hs.2 b (Nat.ne_of_lt (Nat.lt_of_lt_of_le (Heap.lt_size e) (I.ok.cab x c hfn hc)))).trans e1⟩
    · obtain ⟨o', e1⟩ := I.base.there b o e hx
      exact ⟨o', (hs.2 b (Nat.ne_of_lt (Nat.lt_of_lt_of_le (Heap.lt_size e) (I.ok.cab x c hfn hc)))).trans e1⟩
    · by_cases hj : j = i
      · subst hj
        rw [hi] at e1; cases e1
        rw [List.getElem?_set_self hiσ] at e2
        cases e2
        exact ⟨u, r, .inr ⟨.inl hk, c, hc, hc'⟩⟩
      · rw [List.getElem?_set_ne (Ne.symm hj)] at e2
        obtain ⟨u', r', q⟩ := hl j y v' e1 e2 e3
        refine ⟨u', r', ?_⟩
        rcases q with q | ⟨k, c', e, z'⟩
        · exact .inl q
        · refine .inr ⟨k, c', e, z'.sameBut hs ?_⟩
          rintro rfl
          exact hj (nodup_ix hN e1 (I.ok.inj _ _ _ e hc ▸ hi))
    · by_cases hcc : c' = c
      · subst hcc; exact ⟨_, hc'⟩
      · obtain ⟨w2, z2⟩ := I.cell y c' e
        exact ⟨w2, z2.sameBut hs hcc⟩
    · obtain ⟨e, n, ne, nf, d⟩ := I.pin p hp
      refine ⟨(hs.2 p.1 ?_).trans e, n, ne, nf, d⟩
      intro q
      rw [q, hoc] at e
      have q' : oc = p.2 := Option.some.inj e
      exact d w' (by rw [← q']; exact hocd)
theorem store_ok {M : Model} {A : Around} {E : Value → Shared → Prop} {i : Nat} {x : Str} {v : V} {u : Value} {Q : Unit → Shared → Prop} (I : Inv X pins σ H s) (hN : X.N.Nodup) (hi : X.N[i]? = some x) (hx : Loc X.env.scope x) (r : RelV v u)
    (h : ∀ s', Inv X pins (σ.set i (some v)) H s' → Q () s') (hf : X.fn x = true ∨ X.env.scope.names.lookup x = some .local := by first | exact .inl rfl | exact .inr rfl | assumption) : wpAny M A (storeName X.env x u) Q E s :=
  store_ok2 I hN hi hx r (fun s' I' _ => h s' I') hf
/-- behind a call or a block, the state as it is -/
theorem Inv.call' {s' : Shared} {ch : List Addr} (I : Inv X pins σ H s) (ho : s'.os = s.os) (u : Un (frs X.stack) ch H H' s.heap s'.heap) (hok : HOk X.prog X.w H' s'.heap) (hg : AllBare s'.gens)
    (hch : ∀ b ∈ ch, (b ∈ X.ex ∨ X.s₀.heap.objs.size ≤ b) ∧ b ≠ X.env.locals ∧ (∀ x c, X.env.cells.lookup x = some c → c ≠ b) ∧ ∀ p ∈ X.pn ++ pins, p.1 ≠ b) : Inv X pins σ H' s' := by
  obtain ⟨h', g', d', t', o'⟩ := s'
  have e : o' = s.os := ho
  subst e
  exact I.call (g' := g') (t' := t') (d' := d') u hok hg hch
end

/-! ### the judgements -/
/-- an exception: its class, its own dict's address (where it has one), the abstract heap behind it -/
abbrev XK := Value → Option Addr → Hp → Prop
abbrev St := List (Option V)
abbrev VK := V → Hp → Prop
/-- an expression's reading; a test's; an argument list's -/
abbrev TE := St → Hp → VK → Prop
abbrev TT := St → Hp → (Bool → Hp → Prop) → Prop
abbrev TA := St → Hp → (List V → Hp → Prop) → Prop
/-- what is wanted behind a statement -/
structure Ends where
  nx : St → Hp → Prop
  rt : VK
  bk : St → Hp → Prop := fun _ _ => False
  ct : St → Hp → Prop := fun _ _ => False
abbrev TS := Ends → St → Hp → Prop

def EP (X : Cx) (pins : List (Addr × Obj)) (σ : St) (Q : VK) (u : Value) (s' : Shared) : Prop := ∃ v H', Inv X pins σ H' s' ∧ RelV v u ∧ Q v H'
def TP (X : Cx) (pins : List (Addr × Obj)) (σ : St) (Q : Bool → Hp → Prop) (b : Bool) (s' : Shared) : Prop := ∃ H', Inv X pins σ H' s' ∧ Q b H'
def AP (X : Cx) (pins : List (Addr × Obj)) (σ : St) (Q : List V → Hp → Prop) (us : List Value) (s' : Shared) : Prop := ∃ vs H', Inv X pins σ H' s' ∧ Vals vs us ∧ Q vs H'
def SP (X : Cx) (pins : List (Addr × Obj)) (D : Ends) (f : Flow) (s' : Shared) : Prop :=
  match f with
  | .next => ∃ σ' H', Inv X pins σ' H' s' ∧ D.nx σ' H'
  | .brk => ∃ σ' H', Inv X pins σ' H' s' ∧ D.bk σ' H'
  | .cont => ∃ σ' H', Inv X pins σ' H' s' ∧ D.ct σ' H'
  | .ret u => ∃ v σ' H', Inv X pins σ' H' s' ∧ RelV v u ∧ D.rt v H'

def PE (X : Cx) (e : Expr) (t : TE) : Prop :=
  ∀ (pins : List (Addr × Obj)) (s : Shared) (σ : St) (H : Hp) (Q : VK), Inv X pins σ H s → t σ H Q → wpAny (model X.prog X.w) X.A (eval e X.env) (EP X pins σ Q) X.xe s
def PT (X : Cx) (e : Expr) (t : TT) : Prop :=
  ∀ (pins : List (Addr × Obj)) (s : Shared) (σ : St) (H : Hp) (Q : Bool → Hp → Prop), Inv X pins σ H s → t σ H Q → wpAny (model X.prog X.w) X.A (isTrue e X.env (eval e X.env)) (TP X pins σ Q) X.xe s
/-- a test whatever its 'whole' is (and, or) -/
def PW (X : Cx) (e : Expr) (t : TT) : Prop :=
  ∀ (whole : Sem Value) (pins : List (Addr × Obj)) (s : Shared) (σ : St) (H : Hp) (Q : Bool → Hp → Prop), Inv X pins σ H s → t σ H Q → wpAny (model X.prog X.w) X.A (isTrue e X.env whole) (TP X pins σ Q) X.xe s
theorem PW.pt {X : Cx} {e : Expr} {t : TT} (h : PW X e t) : PT X e t := h _
/-- an argument list (no star), from the left -/
def PA (X : Cx) (es : List Expr) (t : TA) : Prop :=
  ∀ (pos : Pos) (pins : List (Addr × Obj)) (s : Shared) (σ : St) (H : Hp) (Q : List V → Hp → Prop), Inv X pins σ H s → t σ H Q → wpAny (model X.prog X.w) X.A (spliced (backTo pos (starEach es X.env))) (AP X pins σ Q) X.xe s
def PS (X : Cx) (st : Stmt) (t : TS) : Prop :=
  ∀ (pins : List (Addr × Obj)) (s : Shared) (σ : St) (H : Hp) (D : Ends), Inv X pins σ H s → t D σ H → wpAny (model X.prog X.w) X.A (exec st X.env) (SP X pins D) X.xe s
def PSs (X : Cx) (st : List Stmt) (t : TS) : Prop :=
  ∀ (pins : List (Addr × Obj)) (s : Shared) (σ : St) (H : Hp) (D : Ends), Inv X pins σ H s → t D σ H → wpAny (model X.prog X.w) X.A (execs st X.env) (SP X pins D) X.xe s
/-- weaken the end -/
theorem thn {α : Type} {t : Sem α} {Q Q' : α → Shared → Prop} {M : Model} {A : Around} {E : Value → Shared → Prop} {s : Shared} (h : wpAny M A t Q E s) (hQ : ∀ a s, Q a s → Q' a s) : wpAny M A t Q' E s := wpAny_mono h hQ fun _ _ x => x
end L2

namespace L2
open PySem PySem.Spec PyProof.Rows
section
variable {X : Cx}


/-! ### names and constants -/
def tVar (i : Nat) : TE := fun σ H Q => ∃ v, σ[i]? = some (some v) ∧ Q v H
def tC (v : V) : TE := fun _ H Q => Q v H
theorem pe_var {i : Nat} {x : Str} {pos : Pos} (hN : X.N[i]? = some x) (hv : Vis X.env.scope x) (hd : (x == ("__debug__" : Str)) = false := by decide) (hcd : (x == ("__classdict__" : Str)) = false := by decide) : PE X (.Name x pos) (tVar i) := by
  intro pins s σ H Q I h
  obtain ⟨v, e, h⟩ := h
  obtain ⟨m, hn, hl⟩ := I.loc
  obtain ⟨u, r, l⟩ := hl i x v hN e hv
  have fin : EP X pins σ Q u s := ⟨v, H, I, r, h⟩
  rcases l with ⟨hk, hm⟩ | ⟨hk, c, hc, hcell⟩
  · exact wpAny_Name (wpAny_loadName_local I.ok.kind hk hn hm fin) hd
  · rcases hk with hk | hk
    · exact wpAny_Name (wpAny_loadName_cell I.ok.kind hk hc hcell fin) hd
    · exact wpAny_Name (wpAny_loadName_free I.ok.kind hk hc hcell fin hcd) hd
theorem pe_int {i j pos} : PE X (.Constant (.int i) j pos) (tC (.int i)) := fun _ _ _ H _ I h => wpAny_Constant_int ⟨.int i, H, I.tok _, ⟨_, rfl⟩, h⟩
theorem pe_bl {b j pos} : PE X (.Constant (.bool b) j pos) (tC (.bl b)) := fun _ _ _ H _ I h => Constant_bool ⟨.bl b, H, I, rfl, h⟩
theorem pe_non {j pos} : PE X (.Constant .none j pos) (tC .non) := fun _ _ _ H _ I h => Constant_none ⟨.non, H, I, rfl, h⟩
theorem pe_str {x j pos} : PE X (.Constant (.str x) j pos) (tC (.str x)) := fun _ _ _ H _ I h => Calls.Constant_str ⟨.str x, H, I.tok _, ⟨_, rfl⟩, h⟩

/-- a global name of the def -/
def Gl (X : Cx) (x : Str) : Prop := X.env.kindOf x = some .globalImplicit
theorem ld_glob {E : Value → Shared → Prop} {pins : List (Addr × Obj)} {s : Shared} {σ : St} {H : Hp} {x : Str} {u : Value} {pos : Pos} {Q : Value → Shared → Prop} (I : Inv X pins σ H s) (hg : Gl X x) (hm : X.mg x = some u) (h : Q u s)
    (hd : (x == ("__debug__" : Str)) = false := by decide) : wpAny (model X.prog X.w) X.A (eval (.Name x pos) X.env) Q E s :=
  Calls.Name_function_global I.ok.kind hg (Calls.loadGlobal_global (by rw [I.ok.glob]; exact I.mod.glob.keeps I.bk) hm h) hd
theorem ld_blt {E : Value → Shared → Prop} {pins : List (Addr × Obj)} {s : Shared} {σ : St} {H : Hp} {x : Str} {u : Value} {pos : Pos} {Q : Value → Shared → Prop} (I : Inv X pins σ H s) (hg : Gl X x) (hm : X.mg x = none) (hv : bootBuiltins x = some u) (h : Q u s)
    (hn : x ≠ "__name__" := by decide) (hd : (x == ("__debug__" : Str)) = false := by decide) : wpAny (model X.prog X.w) X.A (eval (.Name x pos) X.env) Q E s := by
  obtain ⟨mb, h1, h2⟩ := I.mod.blt
  exact Calls.Name_function_global I.ok.kind hg (Calls.loadGlobal_builtin (by rw [I.ok.glob]; exact I.mod.glob.keeps I.bk) hm (by rw [I.ok.blt]; exact h1.keeps I.bk) ((h2 x hn).trans hv) h) hd
/-- a module's constant, a class, a function, as a value -/
theorem pe_glob {x : Str} {v : V} {u : Value} {pos : Pos} (hg : Gl X x) (hm : X.mg x = some u) (r : RelV v u) (hd : (x == ("__debug__" : Str)) = false := by decide) : PE X (.Name x pos) (tC v) :=
  fun _ _ _ H _ I h => ld_glob I hg hm ⟨v, H, I, r, h⟩ hd
theorem pe_bltn {x : Str} {v : V} {u : Value} {pos : Pos} (hg : Gl X x) (hm : X.mg x = none) (hv : bootBuiltins x = some u) (r : RelV v u) (hn : x ≠ "__name__" := by decide) (hd : (x == ("__debug__" : Str)) = false := by decide) : PE X (.Name x pos) (tC v) :=
  fun _ _ _ H _ I h => ld_blt I hg hm hv ⟨v, H, I, r, h⟩ hn hd

/-! ### arithmetic -/
variable {a b : Expr} {ta tb : TE} {pos : Pos}

/-! ### comparisons -/
def PC (X : Cx) (op : CmpOp) (a b : Expr) (t : TE) : Prop :=
  ∀ (pins : List (Addr × Obj)) (s : Shared) (σ : St) (H : Hp) (Q : VK), Inv X pins σ H s → t σ H Q →
    wpAny (model X.prog X.w) X.A (eval a X.env) (fun v s₁ => wpAny (model X.prog X.w) X.A (eval b X.env) (fun u s₂ => wpAny (model X.prog X.w) X.A (compareOp op v u) (EP X pins σ Q) X.xe s₂) X.xe s₁) X.xe s
theorem nobehind (b : Expr) {op : CmpOp} (h : op ≠ .In) (h2 : op ≠ .NotIn) : behindInMarks op b = false := by
  have e1 : (op == CmpOp.In) = false := by cases op <;> first | rfl | exact absurd rfl h
  have e2 : (op == CmpOp.NotIn) = false := by cases op <;> first | rfl | exact absurd rfl h2
  cases b <;> simp [behindInMarks, e1, e2]
/-- a comparison as a value, as a test -/
def tB (t : TE) : TT := fun σ H Q => t σ H fun x H1 => ∃ c, x = .bl c ∧ Q c H1
theorem pt_cmp {op : CmpOp} {t : TE} (h : PC X op a b t) (h1 : behindInMarks op b = false := by first | exact nobehind _ (by decide) (by decide) | rfl) : PT X (.Compare a [op] [b] pos) (tB t) := by
  intro pins s σ H Q I hw
  refine wpAny_isTrue_Compare1 (thn (h pins s σ H _ I hw) fun v s1 h1 => thn h1 fun u s2 h2 => thn h2 fun c s3 ⟨x, H1, I1, r1, q1⟩ => ?_) h1
  obtain ⟨d, rfl, q⟩ := q1
  cases r1
  exact wpAny_truthy_bool ⟨H1, I1, q⟩
/-- an expression whose value is a bool, as a test -/
theorem pt_val {e : Expr} {t : TE} (h : PE X e t) (he : ∀ whole, isTrue e X.env whole = (do let v ← whole; standAt e.pos; holding [v] (truthy v)) := by intro _; rfl) : PT X e (tB t) := by
  intro pins s σ H Q I hw
  refine isTrue_plain (thn (h pins s σ H _ I hw) fun v s1 ⟨x, H1, I1, r1, q1⟩ => ?_) (he _)
  obtain ⟨d, rfl, q⟩ := q1
  cases r1
  exact wpAny_truthy_bool ⟨H1, I1, q⟩

/-! ### and, or, not -/
variable {tA tB' : TT} {rest : List Expr}
def tAnd (t u : TT) : TT := fun σ H Q => t σ H fun c H1 => if c = true then u σ H1 Q else Q false H1
def tOr (t u : TT) : TT := fun σ H Q => t σ H fun c H1 => if c = true then Q true H1 else u σ H1 Q
def tNot (t : TT) : TT := fun σ H Q => t σ H fun c H1 => Q (!c) H1
theorem pw_and1 (ha : PT X a tA) : PW X (.BoolOp .And [a] pos) tA := by
  intro wh pins s σ H Q I h
  refine isTrue_and (thn (ha pins s σ H Q I h) fun c s1 e => ?_)
  cases c with
  | true => exact isTrue_and_nil e
  | false => exact e
theorem pw_or1 (ha : PT X a tA) : PW X (.BoolOp .Or [a] pos) tA := by
  intro wh pins s σ H Q I h
  refine isTrue_or (thn (ha pins s σ H Q I h) fun c s1 e => ?_)
  cases c with
  | false => exact isTrue_or_nil e
  | true => exact e
theorem pw_and (ha : PT X a tA) (hb : PW X (.BoolOp .And (b :: rest) pos) tB') : PW X (.BoolOp .And (a :: b :: rest) pos) (tAnd tA tB') := by
  intro wh pins s σ H Q I h
  refine isTrue_and (thn (ha pins s σ H _ I h) fun c s1 ⟨H1, I1, q1⟩ => ?_)
  cases c with
  | true => exact hb wh pins s1 σ H1 Q I1 q1
  | false => exact ⟨H1, I1, q1⟩
theorem pw_or (ha : PT X a tA) (hb : PW X (.BoolOp .Or (b :: rest) pos) tB') : PW X (.BoolOp .Or (a :: b :: rest) pos) (tOr tA tB') := by
  intro wh pins s σ H Q I h
  refine isTrue_or (thn (ha pins s σ H _ I h) fun c s1 ⟨H1, I1, q1⟩ => ?_)
  cases c with
  | true => exact ⟨H1, I1, q1⟩
  | false => exact hb wh pins s1 σ H1 Q I1 q1
theorem pt_not (ha : PT X a tA) : PT X (.UnaryOp .Not a pos) (tNot tA) := by
  intro pins s σ H Q I h
  exact isTrue_not (ha pins s σ H (fun c H1 => Q (!c) H1) I h)
/-- .. as values (bools) -/
def tAndV (ta tb : TE) : TE := fun σ H Q => ta σ H fun x H1 => ∃ c, x = .bl c ∧ if c = true then tb σ H1 Q else Q (.bl false) H1
def tNotV (ta : TE) : TE := fun σ H Q => ta σ H fun x H1 => ∃ c, x = .bl c ∧ Q (.bl (!c)) H1
theorem pe_one {op} {t : TE} (h : PE X a t) : PE X (.BoolOp op [a] pos) t := fun pins s σ H Q I hw => BoolOp_one (h pins s σ H Q I hw)
theorem pe_and (ha : PE X a ta) (hb : PE X (.BoolOp .And (b :: rest) pos) tb) : PE X (.BoolOp .And (a :: b :: rest) pos) (tAndV ta tb) := by
  intro pins s σ H Q I h
  refine BoolOp_and (thn (ha pins s σ H _ I h) fun v s1 ⟨x, H1, I1, r1, q1⟩ => ?_)
  obtain ⟨c, rfl, q1⟩ := q1
  cases r1
  refine wpAny_truthy_bool ?_
  cases c with
  | true => exact hb pins s1 σ H1 Q I1 q1
  | false => exact ⟨.bl false, H1, I1, rfl, q1⟩
theorem pe_not (ha : PE X a ta) : PE X (.UnaryOp .Not a pos) (tNotV ta) := by
  intro pins s σ H Q I h
  refine UnaryOp_ (thn (ha pins s σ H _ I h) fun v s1 ⟨x, H1, I1, r1, q1⟩ => ?_)
  obtain ⟨c, rfl, q1⟩ := q1
  cases r1
  exact not_of (wpAny_truthy_bool ⟨.bl (!c), H1, I1, rfl, q1⟩)
/-- a if t else b -/
def tIf (t : TT) (ta tb : TE) : TE := fun σ H Q => t σ H fun c H1 => if c = true then ta σ H1 Q else tb σ H1 Q
theorem pe_ifExp {c : Expr} (hc : PT X c tA) (ha : PE X a ta) (hb : PE X b tb) : PE X (.IfExp c a b pos) (tIf tA ta tb) := by
  intro pins s σ H Q I h
  refine wpAny_IfExp (thn (hc pins s σ H _ I h) fun d s1 ⟨H1, I1, q1⟩ => ?_)
  cases d with
  | true => exact ha pins s1 σ H1 Q I1 q1
  | false => exact hb pins s1 σ H1 Q I1 q1
end
end L2

namespace L2
open PySem PySem.Spec PyProof.Rows

/-! ### a list, a tuple that is read: tracked, frozen, or an object of the module -/
def SqL (K : PySem.W.Frag) (H : Hp) (a : Addr) (xs : List V) : Prop :=
  Rd H a (.lst xs) ∨
    ∃ (o : Obj) (its : Array Value) (n : Nat), K.lookup a = some o ∧ o.cls = .type "list" ∧ o.dict = none ∧ o.data = .seq its n ∧ its.size ≤ sizeLine ∧ Vals xs its.toList
def SqT (K : PySem.W.Frag) (H : Hp) (a : Addr) (xs : List V) : Prop :=
  Rd H a (.tup xs) ∨
    ∃ (o : Obj) (its : Array Value) (n : Nat), K.lookup a = some o ∧ o.cls = .type "tuple" ∧ o.data = .seq its n ∧ its.size ≤ sizeLine ∧ Vals xs its.toList
def absV : Value → Option V
  | .none => some .non
  | .bool b => some (.bl b)
  | .int i _ => some (.int i)
  | .str x _ => some (.str x)
  | .bytes b _ => some (.byt b)
  | .float b _ => some (.flt b)
  | .ref a => some (.ref a)
  | .type n => some (.ty n)
  | _ => none
theorem RelV.abs {x : V} {u : Value} (r : RelV x u) : absV u = some x := by
  cases x with
  | non => cases r; rfl
  | bl _ => cases r; rfl
  | int _ => obtain ⟨t, rfl⟩ := r; rfl
  | str _ => obtain ⟨t, rfl⟩ := r; rfl
  | byt _ => obtain ⟨t, rfl⟩ := r; rfl
  | flt _ => obtain ⟨t, rfl⟩ := r; rfl
  | ref _ => cases r; rfl
  | ty _ => cases r; rfl
theorem RelV.inj {x y : V} {u : Value} (r : RelV x u) (q : RelV y u) : x = y := Option.some.inj (r.abs.symm.trans q.abs)
theorem Vals.inj : ∀ {xs ys : List V} {us : List Value}, Vals xs us → Vals ys us → xs = ys
  | _, _, _, .nil, .nil => rfl
  | _, _, _, .cons r t, .cons r' t' => by rw [r.inj r', Vals.inj t t']
section
variable {X : Cx} {pins : List (Addr × Obj)} {σ : St} {H : Hp} {s : Shared} {a : Addr} {xs ys : List V}
theorem SqL.of {K : PySem.W.Frag} (h : H a = some (.lst xs)) : SqL K H a xs := .inl (.inl h)
theorem SqT.of {K : PySem.W.Frag} (h : H a = some (.tup xs)) : SqT K H a xs := .inl (.inl h)
theorem Inv.list (I : Inv X pins σ H s) (h : SqL X.K H a xs) : ∃ its : List Value, Vals xs its ∧ PlainL s.heap a its.toArray ∧ xs.length ≤ sizeLine := by
  rcases h with h | ⟨o, its, n, hk, hc, hd, hs, hz, r⟩
  · obtain ⟨z, its, n, r, e⟩ := h.ok I.hok
    exact ⟨its, r, ⟨_, n, e, rfl, rfl, rfl⟩, z⟩
  · refine ⟨its.toList, r, ⟨o, n, I.kIn a o hk, hc, hd, by simpa using hs⟩, ?_⟩
    have e := r.length
    simp only [Array.length_toList] at e
    omega
theorem Inv.tuple (I : Inv X pins σ H s) (h : SqT X.K H a xs) : ∃ its : List Value, Vals xs its ∧ IsTup s.heap a its.toArray ∧ xs.length ≤ sizeLine := by
  rcases h with h | ⟨o, its, n, hk, hc, hs, hz, r⟩
  · obtain ⟨z, its, r, p⟩ := h.ok I.hok
    exact ⟨its, r, p, z⟩
  · refine ⟨its.toList, r, ⟨o, I.kIn a o hk, hc, n, by simpa using hs⟩, ?_⟩
    have e := r.length
    simp only [Array.length_toList] at e
    omega
theorem Inv.list_inj (I : Inv X pins σ H s) (h : SqL X.K H a xs) (h' : SqL X.K H a ys) : xs = ys := by
  obtain ⟨its, r, ⟨o, n, e, _, _, d⟩, _⟩ := I.list h
  obtain ⟨its', r', ⟨o', n', e', _, _, d'⟩, _⟩ := I.list h'
  rw [e] at e'; cases e'
  rw [d] at d'
  injection d' with d1 _
  have : its = its' := by simpa using congrArg Array.toList d1
  subst this
  exact r.inj r'
end

/-! ### another wish about exceptions -/
abbrev Cx.wish (X : Cx) (E : Value → Shared → Prop) : Cx := { X with xe := E }
/-- no exception leaves -/
abbrev Cx.nox (X : Cx) : Cx := X.wish fun _ _ => False
theorem Cx.Ok.wish {X : Cx} (ok : X.Ok) (E : Value → Shared → Prop) : (X.wish E).Ok :=
  ⟨ok.mod, ok.kind, ok.glob, ok.blt, ok.above, ok.inj, ok.has, ok.cab, ok.hd, ok.frames, ok.stk, ok.exf, ok.bs, ok.bsz, ok.noex, ok.exfs, ok.funs, ok.frf⟩
theorem Cx.Ok.unwish {X : Cx} {E : Value → Shared → Prop} (ok : (X.wish E).Ok) : X.Ok :=
  ⟨ok.mod, ok.kind, ok.glob, ok.blt, ok.above, ok.inj, ok.has, ok.cab, ok.hd, ok.frames, ok.stk, ok.exf, ok.bs, ok.bsz, ok.noex, ok.exfs, ok.funs, ok.frf⟩
section
variable {X : Cx} {pins : List (Addr × Obj)} {σ : St} {H : Hp} {s : Shared} {E : Value → Shared → Prop}
theorem Inv.wish (I : Inv X pins σ H s) (E : Value → Shared → Prop) : Inv (X.wish E) pins σ H s := ⟨I.ok.wish E, I.os, I.bare, I.base, I.loc, I.cell, I.free, I.freeC, I.pin, I.hok, I.len⟩
theorem Inv.unwish (I : Inv (X.wish E) pins σ H s) : Inv X pins σ H s := ⟨I.ok.unwish, I.os, I.bare, I.base, I.loc, I.cell, I.free, I.freeC, I.pin, I.hok, I.len⟩
theorem SP.unwish {D : Ends} {f : Flow} {s' : Shared} (h : SP (X.wish E) pins D f s') : SP X pins D f s' := by
  cases f with
  | next => obtain ⟨σ', H', I, q⟩ := h; exact ⟨σ', H', I.unwish, q⟩
  | brk => obtain ⟨σ', H', I, q⟩ := h; exact ⟨σ', H', I.unwish, q⟩
  | cont => obtain ⟨σ', H', I, q⟩ := h; exact ⟨σ', H', I.unwish, q⟩
  | ret u => obtain ⟨v, σ', H', I, r, q⟩ := h; exact ⟨v, σ', H', I.unwish, r, q⟩
theorem PSs.nox {st : List Stmt} {t : TS} (h : PSs X.nox st t) : PSs X st t := fun pins s σ H D I hw =>
  wpAny_mono (h pins s σ H D (I.wish _) hw) (fun _ _ q => q.unwish) fun _ _ z => False.elim z
end

/-! ### blocks and small statements -/
section
variable {X : Cx} {st : Stmt} {rest : List Stmt} {t u : TS} {e : Expr} {te : TE} {pos : Pos}
def tNext : TS := fun D σ H => D.nx σ H
def tSeq (t u : TS) : TS := fun D σ H => t { D with nx := u D } σ H
theorem pss_nil : PSs X [] tNext := fun _ _ σ H _ I h => wpAny_execs_nil ⟨σ, H, I, h⟩
theorem pss_cons (h1 : PS X st t) (h2 : PSs X rest u) : PSs X (st :: rest) (tSeq t u) := by
  intro pins s σ H D I h
  refine wpAny_execs_cons (thn (h1 pins s σ H { D with nx := u D } I h) fun f s1 q => ?_)
  cases f with
  | next =>
    obtain ⟨σ', H', I', q⟩ := q
    exact h2 pins s1 σ' H' D I' q
  | ret v => exact q
  | brk => exact q
  | cont => exact q
theorem pss_one (h1 : PS X st t) : PSs X [st] t := by
  intro pins s σ H D I h
  refine wpAny_execs_cons (thn (h1 pins s σ H D I h) fun f s1 q => ?_)
  cases f with
  | next => exact wpAny_execs_nil q
  | ret v => exact q
  | brk => exact q
  | cont => exact q
/-- in a def's body nothing is shown -/
theorem Inv.quiet {pins : List (Addr × Obj)} {σ : St} {H : Hp} {s : Shared} (I : Inv X pins σ H s) : interactive X.env = false := by simp [interactive, I.ok.kind]
/-- an expression whose value is dropped -/
def tDrop (te : TE) : TS := fun D σ H => te σ H fun _ H1 => D.nx σ H1
theorem ps_expr (he : PE X e te) (hs : swapsWith e none pos.line X.env = pure false := by rfl) : PS X (.Expr e pos) (tDrop te) := by
  intro pins s σ H D I h
  exact wpAny_Expr_any (thn (he pins s σ H _ I h) fun v s1 ⟨x, H1, I1, r1, q1⟩ => ⟨σ, H1, I1, q1⟩) I.quiet hs
def tRet (te : TE) : TS := fun D σ H => te σ H D.rt
theorem ps_ret (he : PE X e te) : PS X (.Return (some e) pos) (tRet te) := by
  intro pins s σ H D I h
  exact wpAny_Return_some (thn (he pins s σ H _ I h) fun v s1 ⟨x, H1, I1, r1, q1⟩ => ⟨x, σ, H1, I1, r1, q1⟩)
def tIfS (c : TT) (t u : TS) : TS := fun D σ H => c σ H fun b H1 => if b = true then t D σ H1 else u D σ H1
theorem ps_if {c : Expr} {a b : List Stmt} {tc : TT} (hc : PT X c tc) (ha : PSs X a t) (hb : PSs X b u) : PS X (.If c a b pos) (tIfS tc t u) := by
  intro pins s σ H D I h
  refine wpAny_If (thn (hc pins s σ H _ I h) fun d s1 ⟨H1, I1, q1⟩ => ?_)
  cases d with
  | true => exact ha pins s1 σ H1 D I1 q1
  | false => exact hb pins s1 σ H1 D I1 q1
/-- code that the proof never comes to -/
def tNever : TS := fun _ _ _ => False
theorem ps_never : PS X st tNever := fun _ _ _ _ _ _ h => h.elim
end

/-! ### targets -/
abbrev TG := V → St → Hp → (St → Hp → Prop) → Prop
abbrev TGs := List V → St → Hp → (St → Hp → Prop) → Prop
def PG (X : Cx) (target : Expr) (t : TG) : Prop :=
  ∀ (pins : List (Addr × Obj)) (s : Shared) (σ : St) (H : Hp) (v : V) (u : Value) (Q : St → Hp → Prop), Inv X pins σ H s → RelV v u → t v σ H Q →
    wpAny (model X.prog X.w) X.A (assign target X.env u) (fun _ s' => ∃ σ' H', Inv X pins σ' H' s' ∧ Q σ' H') X.xe s
/-- several targets, one after another -/
def PGs (X : Cx) (ts : List Expr) (t : TGs) : Prop :=
  ∀ (pins : List (Addr × Obj)) (s : Shared) (σ : St) (H : Hp) (vs : List V) (us : List Value) (Q : St → Hp → Prop), Inv X pins σ H s → Vals vs us → t vs σ H Q →
    wpAny (model X.prog X.w) X.A (assignInOrder ((assignEach ts X.env).map (·.2)) us) (fun _ s' => ∃ σ' H', Inv X pins σ' H' s' ∧ Q σ' H') X.xe s
/-- o[i] = v, by values -/
abbrev TSet := V → V → V → Hp → (Hp → Prop) → Prop
def PSet (X : Cx) (t : TSet) : Prop :=
  ∀ (pins : List (Addr × Obj)) (s : Shared) (σ : St) (H : Hp) (o i v : V) (ov iv u : Value) (Q : Hp → Prop), Inv X pins σ H s → RelV o ov → RelV i iv → RelV v u → t o i v H Q →
    wpAny (model X.prog X.w) X.A (setItem ov iv u) (fun _ s' => ∃ H', Inv X pins σ H' s' ∧ Q H') X.xe s
section
variable {X : Cx} {pos : Pos}
def gName (i : Nat) : TG := fun v σ H Q => Q (σ.set i (some v)) H
theorem pg_name {i : Nat} {x : Str} (hN : X.N.Nodup) (hi : X.N[i]? = some x) (hx : Loc X.env.scope x) (hf : X.fn x = true ∨ X.env.scope.names.lookup x = some .local := by first | exact .inl rfl | exact .inr rfl | assumption) : PG X (.Name x pos) (gName i) := by
  intro pins s σ H v u Q I r h
  exact wpAny_assign_Name (store_ok I hN hi hx r (fun s' I' => ⟨_, H, I', h⟩) hf)
def gNil : TGs := fun vs σ H Q => vs = [] ∧ Q σ H
def gCons (t : TG) (u : TGs) : TGs := fun vs σ H Q => ∃ v r, vs = v :: r ∧ t v σ H fun σ' H' => u r σ' H' Q
theorem pgs_nil : PGs X [] gNil := by
  intro pins s σ H vs us Q I r h
  obtain ⟨e, h⟩ := h
  subst e
  cases r
  exact assignInOrder_nil ⟨σ, H, I, h⟩
theorem pgs_cons {e : Expr} {es : List Expr} {t : TG} {u : TGs} (h1 : PG X e t) (h2 : PGs X es u)
    (hs : (assignEach (e :: es) X.env).map (·.2) = assign e X.env :: (assignEach es X.env).map (·.2) := by rfl) : PGs X (e :: es) (gCons t u) := by
  intro pins s σ H vs us Q I r h
  obtain ⟨v, vr, e1, h⟩ := h
  subst e1
  cases r with
  | cons r rr =>
    rw [hs]
    refine assignInOrder_cons (thn (h1 pins s σ H _ _ _ I r h) fun _ s1 ⟨σ1, H1, I1, q1⟩ => ?_)
    exact h2 pins s1 σ1 H1 _ _ Q I1 rr q1
/-- (a, b, ..) = a tuple of that length -/
def gTup (K : PySem.W.Frag) (n : Nat) (t : TGs) : TG := fun v σ H Q => ∃ a xs, v = .ref a ∧ SqT K H a xs ∧ xs.length = n ∧ t xs σ H Q
theorem pg_tup {es : List Expr} {k : Nat} {t : TGs} {n : Nat} (hc : X.calm = true) (h : PGs X es t)
    (hn : (assignEach es X.env).length = n := by rfl) (hst : (assignEach es X.env).findIdx? (·.1) = none := by rfl) : PG X (.Tuple es k pos) (gTup X.K n t) := by
  intro pins s σ H v u Q I r hw
  obtain ⟨a, xs, e1, hq, hl, hw⟩ := hw
  subst e1
  cases r
  obtain ⟨its, rv, ht, hz⟩ := I.tuple hq
  refine assign_Tuple_tuple (I.ok.hd hc) ht (by simp [hn, ← hl, rv.length]) hst fun h' hx => ?_
  have I1 : Inv X pins σ H { s with heap := h' } := I.kept (t' := s.toks) fun b o e => hx b o (Nat.ne_of_lt (Heap.lt_size e)) e
  exact h pins _ σ H xs _ Q I1 (by simpa using rv) hw
/-- o[i] = .. -/
def gSub (to ti : TE) (t : TSet) : TG := fun v σ H Q => to σ H fun o H1 => ti σ H1 fun i H2 => t o i v H2 fun H3 => Q σ H3
theorem pg_sub {o i : Expr} {to ti : TE} {t : TSet} (ho : PE X o to) (hi : PE X i ti) (hs : PSet X t)
    (ha : ∀ v, assign (.Subscript o i pos) X.env v = (do
      let ov ← holding [v] (eval o X.env)
      let iv ← holding [v, ov] (eval i X.env)
      standAt pos
      holding [v, ov, iv] (setItem ov iv v)
      release [v, ov, iv] []) := by intro _; rfl) : PG X (.Subscript o i pos) (gSub to ti t) := by
  intro pins s σ H v u Q I r h
  rw [ha]
  refine wpAny_bind (wpAny_holding (thn (ho pins s σ H _ I h) fun ov s1 ⟨x, H1, I1, r1, q1⟩ => ?_))
  refine wpAny_bind (wpAny_holding (thn (hi pins s1 σ H1 _ I1 q1) fun iv s2 ⟨y, H2, I2, r2, q2⟩ => ?_))
  refine wpAny_bind (wpAny_standAt (wpAny_bind (wpAny_holding (thn (hs pins s2 σ H2 x y v ov iv u _ I2 r1 r2 r q2) fun _ s3 ⟨H3, I3, q3⟩ => ?_))))
  exact wpAny_release ⟨σ, H3, I3, q3⟩
/-- target = value -/
def tAsg (te : TE) (g : TG) : TS := fun D σ H => te σ H fun x H1 => g x σ H1 D.nx
theorem ps_asg {tg e : Expr} {te : TE} {g : TG} (he : PE X e te) (hg : PG X tg g) (hs : swapsWithSole [tg] e pos.line X.env = pure false := by rfl) (hw : swappedStores [tg] e X.env = pure none := by rfl)
    (h1 : (assignEach [tg] X.env).map (·.2) = [assign tg X.env] := by rfl) : PS X (.Assign [tg] e pos) (tAsg te g) := by
  intro pins s σ H D I h
  refine wpAny_Assign_stores (thn (he pins s σ H _ I h) fun v s1 ⟨x, H1, I1, r1, q1⟩ => ?_) hs hw
  rw [h1]
  exact thn (hg pins s1 σ H1 x v _ I1 r1 q1) fun _ s2 q => q
/-- name = value -/
theorem ps_set {i : Nat} {x : Str} {e : Expr} {te : TE} {pos' : Pos} (hN : X.N.Nodup) (hi : X.N[i]? = some x) (hx : Loc X.env.scope x) (he : PE X e te) (hs : swapsWith e (some (.Name x pos')) pos.line X.env = pure false := by rfl) (hf : X.fn x = true ∨ X.env.scope.names.lookup x = some .local := by first | exact .inl rfl | exact .inr rfl | assumption) :
    PS X (.Assign [.Name x pos'] e pos) (tAsg te (gName i)) := by
  intro pins s σ H D I h
  refine wpAny_Assign_Name (thn (he pins s σ H _ I h) fun v s1 ⟨y, H1, I1, r1, q1⟩ => ?_) hs
  exact store_ok I1 hN hi hx r1 (fun s2 I2 => ⟨_, H1, I2, q1⟩) hf
/-- a, b = x, y with plain local names: stored from the right; the pair itself is not tracked (the opening rows as in PyProof/Rows/TupAssign.lean:23) -/
def tPar (i j : Nat) (ta : TA) : TS := fun D σ H => ta σ H fun vs H1 => ∃ v w, vs = [v, w] ∧ D.nx ((σ.set i (some v)).set j (some w)) H1
theorem ps_par {i j : Nat} {x y : Str} {a b : Expr} {ta : TA} {px py pt : Pos} {kt k2 pt2} (hc : X.calm = true) (hN : X.N.Nodup) (hi : X.N[i]? = some x) (hj : X.N[j]? = some y) (hij : i ≠ j)
    (hx : X.env.scope.names.lookup x = some .local) (hy : X.env.scope.names.lookup y = some .local) (ha : PA X [a, b] ta)
    (hw : swappedStores [.Tuple [.Name x px, .Name y py] kt pt] (.Tuple [a, b] k2 pt2) X.env = pure (some [x, y]))
    (hs : swapsWithSole [.Tuple [.Name x px, .Name y py] kt pt] (.Tuple [a, b] k2 pt2) pos.line X.env = pure false := by rfl) :
    PS X (.Assign [.Tuple [.Name x px, .Name y py] kt pt] (.Tuple [a, b] k2 pt2) pos) (tPar i j ta) := by
  intro pins s σ H D I h
  rw [exec_Assign_arm]
  refine wpAny_bind (wpAny_standAt ?_)
  rw [hs]
  refine wpAny_bind (wpAny_pure ?_)
  rw [if_neg (by decide)]
  refine wpAny_bind (Tuple_ (thn (ha _ pins s σ H _ I h) fun us s1 ⟨vs, H1, I1, r1, q1⟩ => ?_))
  obtain ⟨v, w, e1, q1⟩ := q1
  subst e1
  obtain ⟨u1, u2, rfl, rv, rw'⟩ : ∃ u1 u2, us = [u1, u2] ∧ RelV v u1 ∧ RelV w u2 := by
    cases r1 with
    | cons p q =>
      cases q with
      | cons p' q' =>
        cases q'
        exact ⟨_, _, rfl, p, p'⟩
  refine wpAny_newObj_type ?_ (by show 2 ≤ sizeLine; decide)
  have I2 : Inv X pins σ H1 { s1 with heap := s1.heap.push { cls := .type "tuple", data := .seq [u1, u2].toArray } } := I1.kept (t' := s1.toks) fun b o e => Heap.get?_push_of_some _ e
  rw [hw]
  refine wpAny_bind (wpAny_pure ?_)
  show wpAny (model X.prog X.w) X.A (do rule "assign.swapped-stores"; let items ← unpackItems (.ref s1.heap.objs.size) 2 none; assignInOrder [fun v => bindName X.env y v, fun v => bindName X.env x v] items.reverse; pure Flow.next) _ _ _
  refine wpAny_bind (wpAny_rule (wpAny_bind (unpackItems_tuple (items := #[u1, u2]) (I.ok.hd hc) (IsTup.new s1.heap _) fun h' hx' => ?_)))
  have I3 := I2.kept (h' := h') (t' := s1.toks) fun b o e => hx' b o (Nat.ne_of_lt (Heap.lt_size e)) e
  show wpAny _ _ (assignInOrder [fun v => bindName X.env y v, fun v => bindName X.env x v] [u2, u1] >>= fun _ => pure Flow.next) _ _ _
  refine wpAny_bind (assignInOrder_cons (wpAny_bindName (store_ok I3 hN hj (.inl hy) rw' (fun s2 I4 => ?_) (.inr hy))))
  refine assignInOrder_cons (wpAny_bindName (store_ok I4 hN hi (.inl hx) rv (fun s3 I5 => assignInOrder_nil (wpAny_pure ?_)) (.inr hx)))
  rw [List.set_comm _ _ (Ne.symm hij)] at I5
  exact ⟨_, H1, I5, q1⟩
end

/-! ### while -/
section
variable {X : Cx} {pos : Pos}
/-- the invariant W with its measure -/
def tWhile (c : TT) (tb : TS) : TS := fun D σ H => ∃ W : Nat → St → Hp → Prop, (∃ m, W m σ H) ∧ ∀ m σ H, W m σ H →
  c σ H fun b H1 => if b = true then ∃ N : St → Hp → Prop, (∀ σ' H', N σ' H' → ∃ m', m' < m ∧ W m' σ' H') ∧ tb { D with nx := N, ct := N, bk := D.nx } σ H1 else D.nx σ H1
theorem ps_while {c : Expr} {body : List Stmt} {tc : TT} {tb : TS} (hp : PassesOwn (model X.prog X.w) X.A X.env X.xe) (hc : PT X c tc) (hb : PSs X body tb) : PS X (.While c body [] pos) (tWhile tc tb) := by
  intro pins s σ H D I h
  obtain ⟨W, ⟨m0, w0⟩, turn⟩ := h
  refine wpAny_While (codeAny_whileLoop (fun n s' => ∃ σ' H', Inv X pins σ' H' s' ∧ W n σ' H') ?_ m0 ⟨σ, H, I, w0⟩)
  rintro n s1 ⟨σ1, H1, I1, w1⟩
  refine wpAny_passesOwn hp (thn (hc pins s1 σ1 H1 _ I1 (turn n σ1 H1 w1)) fun b s2 ⟨H2, I2, q2⟩ => ?_)
  cases b with
  | true =>
    obtain ⟨N, hN, q2⟩ := q2
    rw [if_pos rfl]
    refine wpAny_passesOwn hp (thn (hb pins s2 σ1 H2 _ I2 q2) fun f s3 q3 => ?_)
    cases f with
    | next =>
      obtain ⟨σ3, H3, I3, n3⟩ := q3
      obtain ⟨m', hm, w3⟩ := hN σ3 H3 n3
      exact ⟨m', hm, σ3, H3, I3, w3⟩
    | cont =>
      obtain ⟨σ3, H3, I3, n3⟩ := q3
      obtain ⟨m', hm, w3⟩ := hN σ3 H3 n3
      exact ⟨m', hm, σ3, H3, I3, w3⟩
    | brk => exact q3
    | ret v => exact q3
  | false =>
    rw [if_neg Bool.false_ne_true]
    exact wpAny_execs_nil ⟨σ1, H2, I2, q2⟩
end

/-! ### what a loop or a comprehension walks -/
/-- at turn i: it yields x (the heap may grow), or it stops -/
structure It where
  go : Nat → Hp → Prop
  yld : Nat → Hp → V → Hp → Prop
  stop : Nat → Hp → Prop
/-- the iterator's own objects may turn: they are not the frame's, not pinned, younger than the entry (or a comprehension's own) -/
def FpOk (X : Cx) (pins : List (Addr × Obj)) (H : Hp) (b : Addr) : Prop :=
  H b = none ∧ b ≠ X.env.locals ∧ b ∉ X.fs ∧ (b ∈ X.ex ∨ X.s₀.heap.objs.size ≤ b) ∧ (∀ x c, X.env.cells.lookup x = some c → c ≠ b) ∧ ∀ p ∈ X.pn ++ pins, p.1 ≠ b
theorem Inv.fpOk {X : Cx} {pins : List (Addr × Obj)} {σ : St} {H H' : Hp} {s : Shared} {b : Addr} (I : Inv X pins σ H s) (hb : s.heap.objs.size ≤ b) (hn : H' b = none) : FpOk X pins H' b := by
  refine ⟨hn, Nat.ne_of_gt (Nat.lt_of_lt_of_le I.lt hb), I.nofs hb, .inr (Nat.le_trans I.sz hb), fun x c e z => ?_, fun p hp z => ?_⟩
  · obtain ⟨v, q⟩ := I.cell x c e
    exact absurd (Nat.lt_of_lt_of_le q.lt (by rw [z]; exact hb)) (Nat.lt_irrefl _)
  · exact absurd (Nat.lt_of_lt_of_le (Heap.lt_size (I.pin p hp).1) (by rw [z]; exact hb)) (Nat.lt_irrefl _)
structure Turn (P : Program) (w : World) (K : PySem.W.Frag) (tg : Expr) (J : It) (fp : List Addr) (it : Addr) (tn : Nat → Heap → Prop) : Prop where
  mem : it ∈ fp
  obj : ∀ i h, tn i h → ∀ b ∈ fp, ∃ o, h.get? b = some o ∧ ∀ v, o.data ≠ .cell v
  keep : ∀ i h h', tn i h → (∀ b ∈ fp, ∀ o, h.get? b = some o → h'.get? b = some o) → tn i h'
  item : ∀ (X : Cx), X.prog = P → X.w = w → X.K = K → X.calm = true → ∀ (i : Nat) (pins : List (Addr × Obj)) (s : Shared) (σ : St) (H : Hp) (E : Value → Shared → Prop), Inv X pins σ H s → (∀ b ∈ fp, FpOk X pins H b) → tn i s.heap → J.go i H →
    wpAny (model P w) X.A (pyNext (.ref it)) (fun r s1 => ∃ u, r = some u ∧
      wpAny (model P w) X.A (letOwnedTupleGo tg (.ref it) u) (fun _ s2 => ∃ x H', Inv X pins σ H' s2 ∧ RelV x u ∧ J.yld i H x H' ∧ tn (i + 1) s2.heap ∧ ∀ b ∈ fp, H' b = none) E s1) E s
  done : ∀ (X : Cx), X.prog = P → X.w = w → X.K = K → X.calm = true → ∀ (i : Nat) (pins : List (Addr × Obj)) (s : Shared) (σ : St) (H : Hp) (E : Value → Shared → Prop), Inv X pins σ H s → (∀ b ∈ fp, FpOk X pins H b) → tn i s.heap → J.stop i H →
    wpAny (model P w) X.A (pyNext (.ref it)) (fun r s1 => r = none ∧ Inv X pins σ H s1) E s
  self : ∀ (A : Around) (i : Nat) (s : Shared) (Q : Value → Shared → Prop) (E : Value → Shared → Prop), tn i s.heap → Q (.ref it) s → wpAny (model P w) A (pyIter (.ref it)) Q E s
abbrev TI := St → Hp → (It → Hp → Prop) → Prop
/-- an iterator has come -/
def PIE (X : Cx) (pins : List (Addr × Obj)) (σ : St) (tg : Expr) (R : It → Hp → Prop) (itv : Value) (s2 : Shared) : Prop :=
  ∃ (it : Addr) (fp : List Addr) (tn : Nat → Heap → Prop) (J : It) (H' : Hp), itv = .ref it ∧ Inv X pins σ H' s2 ∧ Turn X.prog X.w X.K tg J fp it tn ∧ tn 0 s2.heap ∧ (∀ b ∈ fp, FpOk X pins H' b) ∧ R J H'
def PI (X : Cx) (tg iter : Expr) (wi : TI) : Prop :=
  ∀ (pins : List (Addr × Obj)) (s : Shared) (σ : St) (H : Hp) (R : It → Hp → Prop), Inv X pins σ H s → wi σ H R →
    wpAny (model X.prog X.w) X.A (eval iter X.env) (fun v s1 => wpAny (model X.prog X.w) X.A (pyIter v) (PIE X pins σ tg R) X.xe s1) X.xe s

/-- the step ahead of the store is nothing for an iterator that keeps no tuple -/
theorem go_of {M : Model} {A : Around} {E : Value → Shared → Prop} {s : Shared} {tg : Expr} {it : Addr} {u : Value} {o : Obj} {n : String} {vs : Array Value} {Q : Unit → Shared → Prop} (ho : s.heap.get? it = some o) (hc : o.cls = .type n) (hd : o.data = .fields vs)
    (hn : ["enumerate", "zip", "dict_itemiterator", "dict_reverseitemiterator", "odict_iterator", "itertools.zip_longest", "itertools.pairwise"].contains n = false) (hQ : Q () s) : wpAny M A (letOwnedTupleGo tg (.ref it) u) Q E s := by
  unfold letOwnedTupleGo
  cases tg <;> first
    | exact wpAny_pure hQ
    | (cases u <;> first
        | exact wpAny_pure hQ
        | (refine wpAny_bind (wpAny_load ho ?_)
           rw [hc, hd]
           show wpAny M A (if (["enumerate", "zip", "dict_itemiterator", "dict_reverseitemiterator", "odict_iterator", "itertools.zip_longest", "itertools.pairwise"].contains n && vs[0]? == some (rawInt _)) = true then _ else _) Q E s
           rw [if_neg (by intro h; rw [hn, Bool.false_and] at h; cases h)]
           exact wpAny_pure hQ))

/-- the list at a, as it stands at each turn (a loop may append to it) -/
def Itl (K : PySem.W.Frag) (a : Addr) : It :=
  ⟨fun i H => ∃ xs x, SqL K H a xs ∧ xs[i]? = some x, fun i H x H' => H' = H ∧ ∀ xs, SqL K H a xs → xs[i]? = some x, fun i H => ∃ xs, SqL K H a xs ∧ xs.length ≤ i⟩
/-- lo, lo + 1, .. (n of them) -/
def Itr (lo : Int) (n : Nat) : It := ⟨fun i _ => i < n, fun i H x H' => H' = H ∧ x = .int (lo + i), fun i _ => n ≤ i⟩
theorem turn_list {P : Program} {w : World} {K : PySem.W.Frag} {tg : Expr} (a it : Addr) : Turn P w K tg (Itl K a) [it] it (fun i h => h.IsListIter it a i) where
  mem := by simp
  obj := fun i h st b hb => by
    have e : b = it := by simpa using hb
    subst e
    obtain ⟨o, e, c, d⟩ := st
    exact ⟨o, e, fun v z => by rw [d] at z; cases z⟩
  keep := fun i h h' st k => st.at fun o e => k it (by simp) o e
  item := by
    intro X hP hw hK hc i pins s σ H E I hf st hg
    subst hP hw hK
    obtain ⟨xs, x, hq, hx⟩ := hg
    obtain ⟨its, rv, p, hz⟩ := I.list hq
    obtain ⟨u, hu, ru⟩ := rv.get hx
    obtain ⟨f0, f1, f2, f3, f4, f5⟩ := hf it (by simp)
    refine wpAny_pyNext_list_item st p.isList (x := u) (by simpa using hu) fun h' st' sb => ?_
    have I1 : Inv X pins σ H { s with heap := h' } := I.turned (t' := s.toks) (fun b o hb e => (sb.2 b hb).trans e) f0 f1 f3 f4 f5
    obtain ⟨o, e, c, d⟩ := id st'
    exact ⟨u, rfl, go_of (s := { s with heap := h' }) e c d (by decide) ⟨x, H, I1, ru, ⟨rfl, fun ys hy => by rw [I.list_inj hy hq]; exact hx⟩, st', fun b hb => (hf b hb).1⟩⟩
  done := by
    intro X hP hw hK hc i pins s σ H E I hf st hg
    subst hP hw hK
    obtain ⟨xs, hq, hx⟩ := hg
    obtain ⟨its, rv, p, hz⟩ := I.list hq
    obtain ⟨f0, f1, f2, f3, f4, f5⟩ := hf it (by simp)
    have hl := rv.length
    exact wpAny_pyNext_list_end (I.ok.hd hc) st p.isList (by simp; omega) fun h' eb => ⟨rfl, I.turned (t' := s.toks) (fun b o hb e => eb b o hb e) f0 f1 f3 f4 f5⟩
  self := fun _ _ _ _ _ st h => wpAny_pyIter_listiter st h
theorem turn_range {P : Program} {w : World} {K : PySem.W.Frag} {tg : Expr} (it : Addr) (lo : Int) (n : Nat) : Turn P w K tg (Itr lo n) [it] it (fun i h => IsRangeIter h it (lo + (i : Nat) * 1) ((n : Int) - (i : Nat)) 1) where
  mem := by simp
  obj := fun i h st b hb => by
    have e : b = it := by simpa using hb
    subst e
    exact ⟨_, st, fun v z => by
      have z' : Data.fields _ = Data.cell v := z
      cases z'⟩
  keep := fun i h h' st k => k it (by simp) _ st
  item := by
    intro X hP hw hK hc i pins s σ H E I hf st hg
    subst hP hw hK
    obtain ⟨f0, f1, f2, f3, f4, f5⟩ := hf it (by simp)
    have W := Walks.range (prog := X.prog) (w := X.w) (I.ok.hd hc) it lo 1 n
    refine W.item i s _ _ hg st fun v h' tk hv st' kk => ?_
    obtain ⟨t, rfl⟩ := hv
    have I1 : Inv X pins σ H { s with heap := h', toks := tk } := I.turned (fun b o hb e => kk b o (by simpa using hb) e) f0 f1 f3 f4 f5
    refine ⟨_, rfl, go_of (s := { s with heap := h', toks := tk }) (n := "range_iterator") st' rfl rfl (by decide) ⟨.int (lo + i), H, I1, ⟨t, ?_⟩, ⟨rfl, rfl⟩, st', fun b hb => (hf b hb).1⟩⟩
    rw [Int.mul_one]
  done := by
    intro X hP hw hK hc i pins s σ H E I hf st hg
    subst hP hw hK
    obtain ⟨f0, f1, f2, f3, f4, f5⟩ := hf it (by simp)
    exact wpAny_pyNext_range_end (I.ok.hd hc) st (by have : n ≤ i := hg; omega) fun h' eb => ⟨rfl, I.turned (t' := s.toks) (fun b o hb e => eb b o hb e) f0 f1 f3 f4 f5⟩
  self := fun _ _ _ _ _ st h => wpAny_pyIter_rangeiter st h
end L2

namespace L2
open PySem PySem.Spec PyProof.Rows
section
variable {X : Cx} {tg : Expr}
def iList (K : PySem.W.Frag) (tl : TE) : TI := fun σ H R => tl σ H fun x H1 => ∃ a, x = .ref a ∧ (∃ xs, SqL K H1 a xs) ∧ R (Itl K a) H1
theorem pi_list {l : Expr} {tl : TE} (hl : PE X l tl) : PI X tg l (iList X.K tl) := by
  intro pins s σ H R I h
  refine thn (hl pins s σ H _ I h) fun v s1 ⟨x, H1, I1, r1, q1⟩ => ?_
  obtain ⟨a, e, ⟨xs, hq⟩, q⟩ := q1
  subst e
  cases r1
  obtain ⟨its, rv, p, hz⟩ := I1.list hq
  refine wpAny_pyIter_list p.isList ?_
  refine ⟨s1.heap.objs.size, [s1.heap.objs.size], _, _, H1, rfl, I1.kept (t' := s1.toks) fun b o e => Heap.get?_push_of_some _ e, turn_list a _, ⟨_, Heap.get?_push_size _ rfl, rfl, rfl⟩, fun b hb => ?_, q⟩
  have e : b = s1.heap.objs.size := by simpa using hb
  subst e
  exact I1.fpOk (Nat.le_refl _) (I1.hok.fresh (Nat.le_refl _))
/-- a range object just made, walked -/
theorem range_it {pins : List (Addr × Obj)} {σ : St} {H : Hp} {s : Shared} {R : It → Hp → Prop} {E : Value → Shared → Prop} {lo hi : Int} {t u v : Tok} {tk : Nat} (I : Inv X pins σ H s) (h1 : -(2 ^ 62) ≤ lo) (h2 : lo < 2 ^ 62) (h3 : -(2 ^ 62) ≤ hi) (h4 : hi < 2 ^ 62)
    (q : R (Itr lo (hi - lo).toNat) H) : wpAny (model X.prog X.w) X.A (pyIter (.ref s.heap.objs.size)) (PIE X pins σ tg R) E { s with heap := s.heap.push { cls := .type "range", data := .fields #[.int lo t, .int hi u, .int 1 v] }, toks := tk } := by
  refine wpAny_pyIter_range (IsRange.new ..) (small_one h1 h2 h3 h4) ?_
  have I1 : Inv X pins σ H { s with heap := s.heap.push { cls := .type "range", data := .fields #[.int lo t, .int hi u, .int 1 v] }, toks := tk } := I.kept fun b o e => Heap.get?_push_of_some _ e
  refine ⟨(s.heap.push { cls := .type "range", data := .fields #[.int lo t, .int hi u, .int 1 v] }).objs.size, [(s.heap.push { cls := .type "range", data := .fields #[.int lo t, .int hi u, .int 1 v] }).objs.size], _, _, H, rfl,
    I1.kept (t' := tk) fun b o e => Heap.get?_push_of_some _ e, turn_range _ lo (hi - lo).toNat, ?_, fun b hb => ?_, q⟩
  · have e1 : lo + ((0 : Nat) : Int) * 1 = lo := by simp
    have e2 : (((hi - lo).toNat : Nat) : Int) - ((0 : Nat) : Int) = Builtin.Range.rangeSize lo hi 1 := by rw [rangeSize_one]; split <;> omega
    show IsRangeIter _ _ (lo + ((0 : Nat) : Int) * 1) ((((hi - lo).toNat : Nat) : Int) - ((0 : Nat) : Int)) 1
    rw [e1, e2]
    exact Heap.get?_push_size _ rfl
  · have e : b = (s.heap.push { cls := .type "range", data := .fields #[.int lo t, .int hi u, .int 1 v] }).objs.size := by simpa using hb
    subst e
    exact I1.fpOk (Nat.le_refl _) (I1.hok.fresh (Nat.le_refl _))
def iRng1 (ta : TA) : TI := fun σ H R => ta σ H fun vs H1 => ∃ j : Int, vs = [.int j] ∧ -(2 ^ 62) ≤ j ∧ j < 2 ^ 62 ∧ R (Itr 0 j.toNat) H1
def iRng2 (ta : TA) : TI := fun σ H R => ta σ H fun vs H1 => ∃ i j : Int, vs = [.int i, .int j] ∧ (-(2 ^ 62) ≤ i ∧ i < 2 ^ 62 ∧ -(2 ^ 62) ≤ j ∧ j < 2 ^ 62) ∧ R (Itr i (j - i).toNat) H1
theorem pi_range1 {a : Expr} {ta : TA} {p pos : Pos} (hg : Gl X "range") (hm : X.mg "range" = none) (ha : PA X [a] ta) (hs : starEach [a] X.env = [(false, eval a X.env)] := by rfl) : PI X tg (.Call (.Name "range" p) [a] [] pos) (iRng1 ta) := by
  intro pins s σ H R I h
  refine Call_ (ld_blt I hg hm boot_range (PyProof.Rows.callWith_type1 (thn (ha pos pins s σ H _ I h) fun us s1 ⟨vs, H1, I1, r1, q1⟩ => ?_) hs rfl))
  obtain ⟨j, e, q1, q2, q⟩ := q1
  subst e
  cases r1 with
  | cons r rr =>
    cases rr
    obtain ⟨t, rfl⟩ := r
    exact call_range_1 (range_it I1 (by omega) (by omega) q1 q2 (by simpa using q))
theorem pi_range2 {a b : Expr} {ta : TA} {p pos : Pos} (hg : Gl X "range") (hm : X.mg "range" = none) (ha : PA X [a, b] ta) (hs : starEach [a, b] X.env = [(false, eval a X.env), (false, eval b X.env)] := by rfl) (hs2 : starEach [b] X.env = [(false, eval b X.env)] := by rfl) :
    PI X tg (.Call (.Name "range" p) [a, b] [] pos) (iRng2 ta) := by
  intro pins s σ H R I h
  refine Call_ (ld_blt I hg hm boot_range (PyProof.Rows.callWith_type1 (thn (ha pos pins s σ H _ I h) fun us s1 ⟨vs, H1, I1, r1, q1⟩ => ?_) (by rw [hs, hs2]) (by rw [hs2]; rfl)))
  obtain ⟨i, j, e, ⟨q1, q2, q3, q4⟩, q⟩ := q1
  subst e
  cases r1 with
  | cons r rr =>
    cases rr with
    | cons r' rr =>
      cases rr
      obtain ⟨t, rfl⟩ := r
      obtain ⟨t', rfl⟩ := r'
      exact call_range_2 (range_it I1 q1 q2 q3 q4 q)

/-! ### for -/
/-- W: the invariant by the turn and a measure; N: what the body is to reach -/
def tFor (wi : TI) (g : TG) (tb : TS) : TS := fun D σ H => wi σ H fun J H1 => ∃ W : Nat → Nat → St → Hp → Prop, (∃ m, W 0 m σ H1) ∧ ∀ i m σ H, W i m σ H →
  (J.stop i H ∧ D.nx σ H) ∨ (J.go i H ∧ ∃ N : St → Hp → Prop, (∀ σ' H', N σ' H' → ∃ m', m' < m ∧ W (i + 1) m' σ' H') ∧ ∀ x H', J.yld i H x H' → g x σ H' fun σ2 H2 => tb { D with nx := N, ct := N, bk := D.nx } σ2 H2)
/-- the records at fp as they stand -/
def pinsAt (fp : List Addr) (h : Heap) : List (Addr × Obj) := fp.filterMap fun b => (h.get? b).map fun o => (b, o)
theorem mem_pinsAt {fp : List Addr} {h : Heap} {b : Addr} {o : Obj} (hb : b ∈ fp) (e : h.get? b = some o) : (b, o) ∈ pinsAt fp h := List.mem_filterMap.mpr ⟨b, hb, by rw [e]; rfl⟩
theorem of_pinsAt {fp : List Addr} {h : Heap} {p : Addr × Obj} (hp : p ∈ pinsAt fp h) : p.1 ∈ fp ∧ h.get? p.1 = some p.2 := by
  obtain ⟨b, hb, e⟩ := List.mem_filterMap.mp hp
  cases q : h.get? b with
  | none => rw [q] at e; cases e
  | some o =>
    rw [q] at e
    have e' : (b, o) = p := Option.some.inj e
    subst e'
    exact ⟨hb, q⟩
theorem Inv.pinned {pins : List (Addr × Obj)} {σ : St} {H : Hp} {s : Shared} {fp : List Addr} (I : Inv X pins σ H s) (hf : ∀ b ∈ fp, FpOk X pins H b) (ho : ∀ b ∈ fp, ∃ o, s.heap.get? b = some o ∧ ∀ v, o.data ≠ .cell v) : Inv X (pins ++ pinsAt fp s.heap) σ H s :=
  I.pins_of fun p hp => (List.mem_append.mp hp).elim (fun z => I.pin p (List.mem_append_right _ z)) fun z => by
    obtain ⟨hb, e⟩ := of_pinsAt z
    obtain ⟨f0, f1, f2, _⟩ := hf p.1 hb
    obtain ⟨o, e', d⟩ := ho p.1 hb
    rw [e] at e'; cases e'
    exact ⟨e, f0, f1, f2, d⟩
theorem Inv.unpinned {pins pl : List (Addr × Obj)} {σ : St} {H : Hp} {s : Shared} (I : Inv X (pins ++ pl) σ H s) : Inv X pins σ H s := I.pins_of fun p hp => I.pin p (List.mem_append_right _ (List.mem_append_left _ hp))
theorem ps_for {iter : Expr} {body : List Stmt} {wi : TI} {g : TG} {tb : TS} {pos : Pos} (hp : PassesOwn (model X.prog X.w) X.A X.env X.xe) (hc : X.calm = true) (hi : PI X tg iter wi) (hg : PG X tg g) (hb : PSs X body tb)
    (hs : ∀ x, foldedSetIterable iter X.env x = pure x := by intro _; rfl) : PS X (.For tg iter body [] pos) (tFor wi g tb) := by
  intro pins s σ H D I h
  refine wpAny_For (thn (hi pins s σ H _ I h) fun v s1 h1 => thn h1 fun itv s2 h2 => ?_) hs
  obtain ⟨it, fp, tn, J, H2, e, I2, T, st2, f2, W, ⟨m0, w0⟩, turn⟩ := h2
  subst e
  -- what stays true of the iterator's objects through the loop
  have stat : ∀ {H' : Hp}, (∀ b ∈ fp, H' b = none) → ∀ b ∈ fp, FpOk X pins H' b := fun hn b hb => ⟨hn b hb, (f2 b hb).2⟩
  refine codeAny_forLoop_any (fun n s' => ∃ i σ' H', Inv X pins σ' H' s' ∧ tn i s'.heap ∧ (∀ b ∈ fp, H' b = none) ∧ W i n σ' H') ?_ m0 ⟨0, σ, H2, I2, st2, fun b hb => (f2 b hb).1, w0⟩
  rintro n s3 ⟨i, σ3, H3, I3, st3, fr3, w3⟩
  rcases turn i n σ3 H3 w3 with ⟨stop, qn⟩ | ⟨go, N, hN, step⟩
  · refine wpAny_passesOwn hp (thn (T.done X rfl rfl rfl hc i pins s3 σ3 H3 X.xe I3 (stat fr3) st3 stop) fun r s4 ⟨hr, I4⟩ => ?_)
    subst hr
    exact wpAny_execs_nil ⟨σ3, H3, I4, qn⟩
  · refine wpAny_passesOwn hp (thn (T.item X rfl rfl rfl hc i pins s3 σ3 H3 X.xe I3 (stat fr3) st3 go) fun r s4 ⟨u, hr, h4⟩ => ?_)
    subst hr
    refine wpAny_passesOwn hp (thn h4 fun _ s5 ⟨x, H5, I5, r5, y5, st5, fr5⟩ => ?_)
    have I5' := I5.pinned (stat fr5) (T.obj _ _ st5)
    refine wpAny_passesOwn hp (thn (hg _ s5 σ3 H5 x u _ I5' r5 (step x H5 y5)) fun _ s6 ⟨σ6, H6, I6, q6⟩ => ?_)
    refine wpAny_passesOwn hp (thn (hb _ s6 σ6 H6 _ I6 q6) fun f s7 q7 => ?_)
    have again : ∀ {σ7 : St} {H7 : Hp}, Inv X (pins ++ pinsAt fp s5.heap) σ7 H7 s7 → N σ7 H7 → ∃ m, m < n ∧ ∃ i σ' H', Inv X pins σ' H' s7 ∧ tn i s7.heap ∧ (∀ b ∈ fp, H' b = none) ∧ W i m σ' H' := fun {σ7 H7} I7 n7 => by
      obtain ⟨m', hm, w7⟩ := hN σ7 H7 n7
      refine ⟨m', hm, i + 1, σ7, H7, I7.unpinned, T.keep _ _ _ st5 fun b hb o e => (I7.pin (b, o) (List.mem_append_right _ (List.mem_append_right _ (mem_pinsAt hb e)))).1, fun b hb => ?_, w7⟩
      obtain ⟨o, e, d⟩ := T.obj _ _ st5 b hb
      exact (I7.pin (b, o) (List.mem_append_right _ (List.mem_append_right _ (mem_pinsAt hb e)))).2.1
    cases f with
    | next => obtain ⟨σ7, H7, I7, n7⟩ := q7; exact again I7 n7
    | cont => obtain ⟨σ7, H7, I7, n7⟩ := q7; exact again I7 n7
    | brk => obtain ⟨σ7, H7, I7, q7⟩ := q7; exact ⟨σ7, H7, I7.unpinned, q7⟩
    | ret v => obtain ⟨x7, σ7, H7, I7, r7, q7⟩ := q7; exact ⟨x7, σ7, H7, I7.unpinned, r7, q7⟩
end

/-! ### the forms one uses -/
/-- over a list that the body leaves as it is -/
theorem for_list {K : PySem.W.Frag} {a : Addr} {xs : List V} {g : TG} {tb : TS} {D : Ends} {σ : St} {H : Hp} (Pv : Nat → St → Hp → Prop) (h0 : Pv 0 σ H) (hl : ∀ i σ H, i ≤ xs.length → Pv i σ H → SqL K H a xs)
    (hs : ∀ i x σ H, xs[i]? = some x → Pv i σ H → g x σ H fun σ2 H2 => tb { D with nx := Pv (i + 1), ct := Pv (i + 1), bk := D.nx } σ2 H2) (hd : ∀ σ H, Pv xs.length σ H → D.nx σ H) :
    ∃ W : Nat → Nat → St → Hp → Prop, (∃ m, W 0 m σ H) ∧ ∀ i m σ H, W i m σ H →
      ((Itl K a).stop i H ∧ D.nx σ H) ∨ ((Itl K a).go i H ∧ ∃ N : St → Hp → Prop, (∀ σ' H', N σ' H' → ∃ m', m' < m ∧ W (i + 1) m' σ' H') ∧ ∀ x H', (Itl K a).yld i H x H' → g x σ H' fun σ2 H2 => tb { D with nx := N, ct := N, bk := D.nx } σ2 H2) := by
  refine ⟨fun i m σ H => m = xs.length - i ∧ i ≤ xs.length ∧ Pv i σ H, ⟨xs.length, by simp, Nat.zero_le _, h0⟩, ?_⟩
  rintro i m σ H ⟨rfl, hi, p⟩
  have q := hl i σ H hi p
  by_cases hlt : i < xs.length
  · refine .inr ⟨⟨xs, xs[i], q, by simp [hlt]⟩, Pv (i + 1), fun σ' H' p' => ⟨xs.length - (i + 1), by omega, rfl, hlt, p'⟩, fun x H' y => ?_⟩
    obtain ⟨e, y⟩ := y
    subst e
    exact hs i x σ _ (y xs q) p
  · have e : i = xs.length := by omega
    subst e
    exact .inl ⟨⟨xs, q, Nat.le_refl _⟩, hd σ H p⟩
theorem for_range {lo : Int} {n : Nat} {g : TG} {tb : TS} {D : Ends} {σ : St} {H : Hp} (Pv : Nat → St → Hp → Prop) (h0 : Pv 0 σ H)
    (hs : ∀ i σ H, i < n → Pv i σ H → g (.int (lo + i)) σ H fun σ2 H2 => tb { D with nx := Pv (i + 1), ct := Pv (i + 1), bk := D.nx } σ2 H2) (hd : ∀ σ H, Pv n σ H → D.nx σ H) :
    ∃ W : Nat → Nat → St → Hp → Prop, (∃ m, W 0 m σ H) ∧ ∀ i m σ H, W i m σ H →
      ((Itr lo n).stop i H ∧ D.nx σ H) ∨ ((Itr lo n).go i H ∧ ∃ N : St → Hp → Prop, (∀ σ' H', N σ' H' → ∃ m', m' < m ∧ W (i + 1) m' σ' H') ∧ ∀ x H', (Itr lo n).yld i H x H' → g x σ H' fun σ2 H2 => tb { D with nx := N, ct := N, bk := D.nx } σ2 H2) := by
  refine ⟨fun i m σ H => m = n - i ∧ i ≤ n ∧ Pv i σ H, ⟨n, by simp, Nat.zero_le _, h0⟩, ?_⟩
  rintro i m σ H ⟨rfl, hi, p⟩
  by_cases hlt : i < n
  · refine .inr ⟨hlt, Pv (i + 1), fun σ' H' p' => ⟨n - (i + 1), by omega, rfl, hlt, p'⟩, fun x H' y => ?_⟩
    obtain ⟨e, y⟩ := y
    subst e y
    exact hs i σ _ hlt p
  · have e : i = n := by omega
    subst e
    exact .inl ⟨Nat.le_refl _, hd σ H p⟩
end L2

namespace L2
open PySem PySem.Spec PyProof.Rows

abbrev R2 := V → V → Hp → VK → Prop
/-- a two-place operation on values: f is binaryOp op, inplaceOp op or compareOp op -/
def OpR (X : Cx) (f : Value → Value → Sem Value) (r : R2) : Prop :=
  ∀ (pins : List (Addr × Obj)) (s : Shared) (σ : St) (H : Hp) (x y : V) (v u : Value) (Q : VK), Inv X pins σ H s → RelV x v → RelV y u → r x y H Q →
    wpAny (model X.prog X.w) X.A (f v u) (EP X pins σ Q) X.xe s
/-- a call of a value that is known (a builtin, a type) with values -/
def CallR (X : Cx) (f : Value) (r : List V → Hp → VK → Prop) : Prop :=
  ∀ (pins : List (Addr × Obj)) (s : Shared) (σ : St) (H : Hp) (xs : List V) (us : List Value) (Q : VK), Inv X pins σ H s → Vals xs us → r xs H Q →
    wpAny (model X.prog X.w) X.A (call f us) (EP X pins σ Q) X.xe s
/-- a value's truth -/
def TruR (X : Cx) (r : V → Hp → (Bool → Hp → Prop) → Prop) : Prop :=
  ∀ (pins : List (Addr × Obj)) (s : Shared) (σ : St) (H : Hp) (x : V) (v : Value) (Q : Bool → Hp → Prop), Inv X pins σ H s → RelV x v → r x H Q →
    wpAny (model X.prog X.w) X.A (truthy v) (TP X pins σ Q) X.xe s

def tOp (r : R2) (ta tb : TE) : TE := fun σ H Q => ta σ H fun x H1 => tb σ H1 fun y H2 => r x y H2 Q
/-- ints in, under C, and a value out -/
def rI (C : Int → Int → Prop) (g : Int → Int → V) : R2 := fun x y H Q => ∃ i j, x = .int i ∧ y = .int j ∧ C i j ∧ Q (g i j) H
def rI0 (g : Int → Int → V) : R2 := fun x y H Q => ∃ i j, x = .int i ∧ y = .int j ∧ Q (g i j) H

section
variable {X : Cx} {a b c : Expr} {ta tb tc : TE} {pos : Pos}

theorem binT (ha : PE X a ta) (hb : PE X b tb) {pins : List (Addr × Obj)} {s : Shared} {σ : St} {H : Hp} {R : V → V → Hp → Prop} (I : Inv X pins σ H s)
    (h : ta σ H fun x H1 => tb σ H1 fun y H2 => R x y H2) {Q : Value → Shared → Prop} {f : Value → Value → Sem Value}
    (hf : ∀ v u s2 x y H2, Inv X pins σ H2 s2 → RelV x v → RelV y u → R x y H2 → wpAny (model X.prog X.w) X.A (f v u) Q X.xe s2) :
    wpAny (model X.prog X.w) X.A (eval a X.env) (fun v s₁ => wpAny (model X.prog X.w) X.A (eval b X.env) (fun u s₂ => wpAny (model X.prog X.w) X.A (f v u) Q X.xe s₂) X.xe s₁) X.xe s := by
  refine thn (ha pins s σ H _ I h) fun v s1 ⟨x, H1, I1, r1, q1⟩ => ?_
  refine thn (hb pins s1 σ H1 _ I1 q1) fun u s2 ⟨y, H2, I2, r2, q2⟩ => ?_
  exact hf v u s2 x y H2 I2 r1 r2 q2

theorem pe_op {op : Operator} {r : R2} (ho : OpR X (binaryOp op) r) (ha : PE X a ta) (hb : PE X b tb) : PE X (.BinOp a op b pos) (tOp r ta tb) := by
  intro pins s σ H Q I h
  exact wpAny_BinOp (binT ha hb I h fun v u s2 x y H2 I2 rx ry q => ho pins s2 σ H2 x y v u Q I2 rx ry q)

/-! ### ints -/
theorem opI {f : Value → Value → Sem Value} {C : Int → Int → Prop} {g : Int → Int → Int}
    (rule : ∀ (i j : Int) (t u : Tok) (s : Shared) (Q : Value → Shared → Prop) (E : Value → Shared → Prop), C i j → Q (.int (g i j) s.toks) { s with toks := s.toks + 1 } → wpAny (model X.prog X.w) X.A (f (.int i t) (.int j u)) Q E s) :
    OpR X f (rI C fun i j => .int (g i j)) := by
  intro pins s σ H x y v u Q I rx ry h
  obtain ⟨i, j, rfl, rfl, hc, q⟩ := h
  obtain ⟨t, rfl⟩ := rx
  obtain ⟨t', rfl⟩ := ry
  exact rule i j t t' s _ _ hc ⟨.int (g i j), H, I.tok _, ⟨_, rfl⟩, q⟩
theorem opI0 {f : Value → Value → Sem Value} {g : Int → Int → Int}
    (rule : ∀ (i j : Int) (t u : Tok) (s : Shared) (Q : Value → Shared → Prop) (E : Value → Shared → Prop), Q (.int (g i j) s.toks) { s with toks := s.toks + 1 } → wpAny (model X.prog X.w) X.A (f (.int i t) (.int j u)) Q E s) :
    OpR X f (rI0 fun i j => .int (g i j)) := by
  intro pins s σ H x y v u Q I rx ry h
  obtain ⟨i, j, rfl, rfl, q⟩ := h
  obtain ⟨t, rfl⟩ := rx
  obtain ⟨t', rfl⟩ := ry
  exact rule i j t t' s _ _ ⟨.int (g i j), H, I.tok _, ⟨_, rfl⟩, q⟩
theorem opB0 {f : Value → Value → Sem Value} {g : Int → Int → Bool}
    (rule : ∀ (i j : Int) (t u : Tok) (s : Shared) (Q : Value → Shared → Prop) (E : Value → Shared → Prop), Q (.bool (g i j)) s → wpAny (model X.prog X.w) X.A (f (.int i t) (.int j u)) Q E s) :
    OpR X f (rI0 fun i j => .bl (g i j)) := by
  intro pins s σ H x y v u Q I rx ry h
  obtain ⟨i, j, rfl, rfl, q⟩ := h
  obtain ⟨t, rfl⟩ := rx
  obtain ⟨t', rfl⟩ := ry
  exact rule i j t t' s _ _ ⟨.bl (g i j), H, I, rfl, q⟩

def CDiv (i j : Int) : Prop := 0 < j ∧ j < 1073741824
def CPow (i j : Int) : Prop := 0 ≤ j ∧ j ≤ 1000000 ∧ i.natAbs < 2 ^ 64
def CMul (i j : Int) : Prop := (-(2 ^ 64) < i ∧ i < 2 ^ 64) ∨ (-(2 ^ 64) < j ∧ j < 2 ^ 64)
theorem CMul.ok {i j : Int} (h : CMul i j) : IntMulOk i j := by
  rcases h with ⟨h1, h2⟩ | ⟨h1, h2⟩
  · exact .of_left (intBits_le_64 h1 h2)
  · exact .of_right (intBits_le_64 h1 h2)
theorem two_pow_nn (k : Nat) : (0 : Int) ≤ 2 ^ k := by
  rw [two_pow_cast]
  exact Int.natCast_nonneg _

theorem op_add : OpR X (binaryOp .Add) (rI0 fun i j => .int (i + j)) := opI0 fun _ _ _ _ _ _ _ q => add_int q
theorem op_sub : OpR X (binaryOp .Sub) (rI0 fun i j => .int (i - j)) := opI0 fun _ _ _ _ _ _ _ q => sub_int q
theorem op_mul : OpR X (binaryOp .Mult) (rI CMul fun i j => .int (i * j)) := opI fun _ _ _ _ _ _ _ hc q => mul_int q hc.ok
/-- // by a positive divisor -/
theorem op_fdiv : OpR X (binaryOp .FloorDiv) (rI CDiv fun i j => .int (i / j)) := opI fun i j _ _ _ _ _ hc q => by
  have h1 : (0 : Int) < j := hc.1
  have h2 : j < 1073741824 := hc.2
  exact floordiv_int (by omega) (by rw [Int.fdiv_eq_ediv_of_nonneg i (by omega)]; exact q) (.inl (PyProof.noPylong_small (by omega)))
/-- % by a positive divisor of any size -/
theorem op_mod : OpR X (binaryOp .Mod) (rI (fun _ j => 0 < j) fun i j => .int (i % j)) := opI fun i j _ _ _ _ _ hc q => by
  have h1 : (0 : Int) < j := hc
  exact mod_int' (by omega) (by rw [Int.fmod_eq_emod_of_nonneg i (by omega)]; exact q)
theorem op_pow : OpR X (binaryOp .Pow) (rI CPow fun i j => .int (i ^ j.toNat)) := opI fun _ _ _ _ _ _ _ hc q => pow_int_small hc.1 hc.2.1 hc.2.2 q
theorem op_shl : OpR X (binaryOp .LShift) (rI CPow fun i j => .int (i * 2 ^ j.toNat)) := opI fun _ _ _ _ _ _ _ hc q => lshift_int_small hc.1 hc.2.1 hc.2.2 q
theorem op_shr : OpR X (binaryOp .RShift) (rI (fun _ j => 0 ≤ j) fun i j => .int (i / 2 ^ j.toNat)) := opI fun i j _ _ _ _ _ hc q =>
  rshift_int hc (by rw [Int.fdiv_eq_ediv_of_nonneg i (two_pow_nn _)]; exact q)
theorem op_and : OpR X (binaryOp .BitAnd) (rI0 fun i j => .int (Builtin.bitAnd i j)) := opI0 fun _ _ _ _ _ _ _ q => and_int q



/-! ### bools among ints: n += (a < b) -/
end

/-! ### comparisons -/
/-- the scalars that == tells apart as data does -/
def scal : V → V → Bool
  | .non, .non => true | .non, .int _ => true | .int _, .non => true | .non, .bl _ => true | .bl _, .non => true | .non, .str _ => true | .str _, .non => true
  | .int _, .int _ => true | .bl _, .bl _ => true | .str _, .str _ => true | .byt _, .byt _ => true
  | .int _, .str _ => true | .str _, .int _ => true | .bl _, .str _ => true | .str _, .bl _ => true
  | _, _ => false
def rEq : R2 := fun x y H Q => scal x y = true ∧ Q (.bl (decide (x = y))) H
def rNe : R2 := fun x y H Q => scal x y = true ∧ Q (.bl (!decide (x = y))) H

theorem dec_int {i j : Int} : decide (V.int i = V.int j) = (i == j) := by
  rw [Bool.eq_iff_iff]
  simp
theorem dec_bl {i j : Bool} : decide (V.bl i = V.bl j) = (i == j) := by
  rw [Bool.eq_iff_iff]
  simp
theorem dec_str {i j : Str} : decide (V.str i = V.str j) = (i == j) := by
  rw [Bool.eq_iff_iff]
  simp
theorem dec_byt {i j : Array UInt8} : decide (V.byt i = V.byt j) = (i.toList == j.toList) := by
  rw [Bool.eq_iff_iff]
  cases i
  cases j
  simp

section
variable {X : Cx} {a b c : Expr} {ta tb tc : TE} {pos : Pos}
theorem fin_bl {pins : List (Addr × Obj)} {σ : St} {H : Hp} {s : Shared} {Q : VK} {k k' : Bool} (I : Inv X pins σ H s) (q : Q (.bl k) H) (e : k = k') : EP X pins σ Q (.bool k') s := by
  subst e
  exact ⟨.bl k, H, I, rfl, q⟩
theorem op_eq : OpR X (compareOp .Eq) rEq := by
  intro pins s σ H x y v u Q I rx ry h
  obtain ⟨hs, q⟩ := h
  cases x with
  | non =>
    cases rx
    cases y with
    | non => cases ry; exact PySem.EqNone.eq_none_none (fin_bl I q (by simp))
    | bl j => cases ry; exact PySem.EqNone.eq_none_bool (fin_bl I q (by simp))
    | int j => obtain ⟨t', rfl⟩ := ry; exact PySem.EqNone.eq_none_int (fin_bl I q (by simp))
    | str j => obtain ⟨t', rfl⟩ := ry; exact PySem.EqNone.eq_none_str (fin_bl I q (by simp))
    | _ => exact absurd (show false = true from hs) Bool.false_ne_true
  | bl i =>
    cases rx
    cases y with
    | non => cases ry; exact PySem.EqNone.eq_bool_none (fin_bl I q (by simp))
    | bl j => cases ry; exact eq_bool (fin_bl I q dec_bl)
    | str j => obtain ⟨t', rfl⟩ := ry; exact PySem.EqMixed.eq_bool_str (fin_bl I q (by simp))
    | _ => exact absurd (show false = true from hs) Bool.false_ne_true
  | int i =>
    obtain ⟨t, rfl⟩ := rx
    cases y with
    | non => cases ry; exact PySem.EqNone.eq_int_none (fin_bl I q (by simp))
    | int j => obtain ⟨t', rfl⟩ := ry; exact eq_int (fin_bl I q dec_int)
    | str j => obtain ⟨t', rfl⟩ := ry; exact PySem.EqMixed.eq_int_str (fin_bl I q (by simp))
    | _ => exact absurd (show false = true from hs) Bool.false_ne_true
  | str i =>
    obtain ⟨t, rfl⟩ := rx
    cases y with
    | non => cases ry; exact PySem.EqNone.eq_str_none (fin_bl I q (by simp))
    | bl j => cases ry; exact PySem.EqMixed.eq_str_bool (fin_bl I q (by simp))
    | int j => obtain ⟨t', rfl⟩ := ry; exact PySem.EqMixed.eq_str_int (fin_bl I q (by simp))
    | str j => obtain ⟨t', rfl⟩ := ry; exact eq_str (fin_bl I q dec_str)
    | _ => exact absurd (show false = true from hs) Bool.false_ne_true
  | byt i =>
    obtain ⟨t, rfl⟩ := rx
    cases y with
    | byt j => obtain ⟨t', rfl⟩ := ry; exact PySem.W.eq_bytes (fin_bl I q dec_byt)
    | _ => exact absurd (show false = true from hs) Bool.false_ne_true
  | _ => cases y <;> exact absurd (show false = true from hs) Bool.false_ne_true
theorem op_ne : OpR X (compareOp .NotEq) rNe := by
  intro pins s σ H x y v u Q I rx ry h
  obtain ⟨hs, q⟩ := h
  cases x with
  | non =>
    cases rx
    cases y with
    | non => cases ry; exact PySem.EqNone.ne_none_none (fin_bl I q (by simp))
    | bl j => cases ry; exact PySem.EqNone.ne_none_bool (fin_bl I q (by simp))
    | int j => obtain ⟨t', rfl⟩ := ry; exact PySem.EqNone.ne_none_int (fin_bl I q (by simp))
    | str j => obtain ⟨t', rfl⟩ := ry; exact PySem.EqNone.ne_none_str (fin_bl I q (by simp))
    | _ => exact absurd (show false = true from hs) Bool.false_ne_true
  | bl i =>
    cases rx
    cases y with
    | non => cases ry; exact PySem.EqNone.ne_bool_none (fin_bl I q (by simp))
    | bl j => cases ry; exact ne_bool (fin_bl I q (congrArg not dec_bl))
    | str j => obtain ⟨t', rfl⟩ := ry; exact PySem.EqMixed.ne_bool_str (fin_bl I q (by simp))
    | _ => exact absurd (show false = true from hs) Bool.false_ne_true
  | int i =>
    obtain ⟨t, rfl⟩ := rx
    cases y with
    | non => cases ry; exact PySem.EqNone.ne_int_none (fin_bl I q (by simp))
    | int j => obtain ⟨t', rfl⟩ := ry; exact ne_int (fin_bl I q (congrArg not dec_int))
    | str j => obtain ⟨t', rfl⟩ := ry; exact PySem.EqMixed.ne_int_str (fin_bl I q (by simp))
    | _ => exact absurd (show false = true from hs) Bool.false_ne_true
  | str i =>
    obtain ⟨t, rfl⟩ := rx
    cases y with
    | non => cases ry; exact PySem.EqNone.ne_str_none (fin_bl I q (by simp))
    | bl j => cases ry; exact PySem.EqMixed.ne_str_bool (fin_bl I q (by simp))
    | int j => obtain ⟨t', rfl⟩ := ry; exact PySem.EqMixed.ne_str_int (fin_bl I q (by simp))
    | str j => obtain ⟨t', rfl⟩ := ry; exact ne_str (fin_bl I q (congrArg not dec_str))
    | _ => exact absurd (show false = true from hs) Bool.false_ne_true
  | byt i =>
    obtain ⟨t, rfl⟩ := rx
    cases y with
    | byt j => obtain ⟨t', rfl⟩ := ry; exact PySem.W.ne_bytes (fin_bl I q (congrArg not dec_byt))
    | _ => exact absurd (show false = true from hs) Bool.false_ne_true
  | _ => cases y <;> exact absurd (show false = true from hs) Bool.false_ne_true

theorem op_lt : OpR X (compareOp .Lt) (rI0 fun i j => .bl (decide (i < j))) := opB0 fun _ _ _ _ _ _ _ q => lt_int q
theorem op_le : OpR X (compareOp .LtE) (rI0 fun i j => .bl (decide (i ≤ j))) := opB0 fun _ _ _ _ _ _ _ q => le_int q
theorem op_gt : OpR X (compareOp .Gt) (rI0 fun i j => .bl (decide (j < i))) := opB0 fun _ _ _ _ _ _ _ q => gt_int q

/-- is None, is not None: the right side a value none -/
theorem op_isN : OpR X (compareOp .Is) (fun x y H Q => y = .non ∧ Q (.bl (decide (x = .non))) H) := by
  intro pins s σ H x y v u Q I rx ry h
  obtain ⟨rfl, q⟩ := h
  cases ry
  refine is_none_gen (fin_bl I q ?_)
  cases x <;> first
    | (cases rx; rfl)
    | (obtain ⟨t, rfl⟩ := rx; rfl)



theorem nomark (b : Expr) {op : CmpOp} (h : op ≠ .In := by decide) (h2 : op ≠ .NotIn := by decide) : behindInMarks op b = false := by
  have e1 : (op == CmpOp.In) = false := by cases op <;> first | rfl | exact absurd rfl h
  have e2 : (op == CmpOp.NotIn) = false := by cases op <;> first | rfl | exact absurd rfl h2
  cases b <;> simp [behindInMarks, e1, e2]
/-- a comparison as a value; hm: nomark b, or (for in, not in) by with_unfolding_all rfl -/
theorem pe_cmpR {op : CmpOp} {r : R2} (ho : OpR X (compareOp op) r) (ha : PE X a ta) (hb : PE X b tb) (hm : behindInMarks op b = false) : PE X (.Compare a [op] [b] pos) (tOp r ta tb) := by
  intro pins s σ H Q I h
  exact wpAny_Compare1 (binT ha hb I h fun v u s2 x y H2 I2 rx ry q => ho pins s2 σ H2 x y v u Q I2 rx ry q) hm
/-- a reading of a value as a test -/
def tTest (t : TE) : TT := fun σ H Q => t σ H fun x H' => ∃ k, x = .bl k ∧ Q k H'
theorem pt_cmpR {op : CmpOp} {r : R2} (ho : OpR X (compareOp op) r) (ha : PE X a ta) (hb : PE X b tb) (hm : behindInMarks op b = false) : PT X (.Compare a [op] [b] pos) (tTest (tOp r ta tb)) := by
  intro pins s σ H Q I h
  refine wpAny_isTrue_Compare1 (thn (ha pins s σ H _ I h) fun v s1 ⟨x, H1, I1, r1, q1⟩ => thn (hb pins s1 σ H1 _ I1 q1) fun u s2 ⟨y, H2, I2, r2, q2⟩ =>
    thn (ho pins s2 σ H2 x y v u _ I2 r1 r2 q2) fun c s3 ⟨z, H3, I3, r3, k, e, q3⟩ => ?_) hm
  subst e
  cases r3
  exact wpAny_truthy_bool ⟨H3, I3, q3⟩
/-- a op1 b op2 c -/
def tChain (r r' : R2) (ta tb tc : TE) : TE := fun σ H Q => ta σ H fun x H1 => tb σ H1 fun y H2 => r x y H2 fun z H3 => ∃ k, z = .bl k ∧
  (if k = true then tc σ H3 fun w' H4 => r' y w' H4 Q else Q (.bl false) H3)
theorem pe_chain {op op' : CmpOp} {r r' : R2} (ho : OpR X (compareOp op) r) (ho' : OpR X (compareOp op') r') (ha : PE X a ta) (hb : PE X b tb) (hc : PE X c tc)
    (hm : lastMarks [op, op'] [b, c] = false := by with_unfolding_all rfl) : PE X (.Compare a [op, op'] [b, c] pos) (tChain r r' ta tb tc) := by
  intro pins s σ H Q I h
  refine Compare_chain (thn (ha pins s σ H _ I h) fun v s1 ⟨x, H1, I1, r1, q1⟩ => chain_link (thn (hb pins s1 σ H1 _ I1 q1) fun u s2 ⟨y, H2, I2, r2, q2⟩ =>
    thn (ho pins s2 σ H2 x y v u _ I2 r1 r2 q2) fun d s3 ⟨z, H3, I3, r3, k, e, q3⟩ => ?_)) hm
  subst e
  cases r3
  refine wpAny_truthy_bool ?_
  cases k with
  | false => exact ite_ff ⟨.bl false, H3, I3, rfl, q3⟩
  | true => exact ite_tt (chain_last (thn (hc pins s3 σ H3 _ I3 q3) fun w' s4 ⟨z', H4, I4, r4, q4⟩ => ho' pins s4 σ H4 y z' u w' Q I4 r2 r4 q4))
theorem pt_chain {op op' : CmpOp} {r r' : R2} (ho : OpR X (compareOp op) r) (ho' : OpR X (compareOp op') r') (ha : PE X a ta) (hb : PE X b tb) (hc : PE X c tc)
    (hm : lastMarks [op, op'] [b, c] = false := by with_unfolding_all rfl) : PT X (.Compare a [op, op'] [b, c] pos) (tTest (tChain r r' ta tb tc)) := by
  intro pins s σ H Q I h
  refine isTrue_chain (thn (ha pins s σ H _ I h) fun v s1 ⟨x, H1, I1, r1, q1⟩ => test_link (thn (hb pins s1 σ H1 _ I1 q1) fun u s2 ⟨y, H2, I2, r2, q2⟩ =>
    thn (ho pins s2 σ H2 x y v u _ I2 r1 r2 q2) fun d s3 ⟨z, H3, I3, r3, k, e, q3⟩ => ?_)) hm
  subst e
  cases r3
  refine wpAny_truthy_bool ?_
  cases k with
  | false =>
    obtain ⟨k', e', q'⟩ := q3
    cases e'
    exact ite_ff ⟨H3, I3, q'⟩
  | true =>
    refine ite_tt (test_last (thn (hc pins s3 σ H3 _ I3 q3) fun w' s4 ⟨z', H4, I4, r4, q4⟩ => thn (ho' pins s4 σ H4 y z' u w' _ I4 r2 r4 q4) fun d' s5 ⟨z2, H5, I5, r5, k2, e2, q5⟩ => ?_))
    subst e2
    cases r5
    exact wpAny_truthy_bool ⟨H5, I5, q5⟩

/-! ### truth -/
/-- a value's truth by the abstract heap -/
def TruV (K : PySem.W.Frag) (x : V) (H : Hp) (k : Bool) : Prop :=
  match x with
  | .non => k = false
  | .bl b => k = b
  | .int i => k = (i != 0)
  | .str y => y.length ≤ sizeLine ∧ k = ((y.length : Int) != 0)
  | .byt y => y.size ≤ sizeLine ∧ k = ((y.size : Int) != 0)
  | .ref p => (∃ xs, SqL K H p xs ∧ k = !xs.isEmpty) ∨ (∃ xs, SqT K H p xs ∧ k = !xs.isEmpty) ∨ ∃ kvs, H p = some (.dK kvs) ∧ k = !kvs.isEmpty
  | _ => False
theorem isEmpty_kv {κ : Type} {kvs : List (κ × V)} {vs : List (κ × Value)} (r : KV kvs vs) : (!vs.isEmpty) = !kvs.isEmpty := by
  cases r <;> rfl
theorem isEmpty_of {xs : List V} {its : List Value} (r : Vals xs its) : (!its.toArray.isEmpty) = !xs.isEmpty := by
  cases r <;> simp
theorem line63 : (sizeLine : Nat) < 2 ^ 63 := by rw [sizeLine_eq]; decide
theorem tru_ok : TruR X (fun x H Q => ∃ k, TruV X.K x H k ∧ Q k H) := by
  intro pins s σ H x v Q I rx h
  obtain ⟨k, e, q⟩ := h
  have hl := line63
  have hs : sizeLine = 16777216 := sizeLine_eq
  cases x with
  | non =>
    cases rx
    have e' : k = false := e
    subst e'
    exact truthy_none ⟨H, I, q⟩
  | bl b =>
    cases rx
    have e' : k = b := e
    subst e'
    exact wpAny_truthy_bool ⟨H, I, q⟩
  | int i =>
    obtain ⟨t, rfl⟩ := rx
    have e' : k = (i != 0) := e
    subst e'
    exact PySem.P.truthy_int ⟨H, I, q⟩
  | str y =>
    obtain ⟨t, rfl⟩ := rx
    obtain ⟨hy, e'⟩ : y.length ≤ sizeLine ∧ k = ((y.length : Int) != 0) := e
    subst e'
    exact PySem.P.truthy_str (by omega) ⟨H, I.tok _, q⟩
  | byt y =>
    obtain ⟨t, rfl⟩ := rx
    obtain ⟨hy, e'⟩ : y.size ≤ sizeLine ∧ k = ((y.size : Int) != 0) := e
    subst e'
    exact PySem.W.truthy_bytes (by omega) ⟨H, I.tok _, q⟩
  | ref p =>
    cases rx
    have e' : (∃ xs, SqL X.K H p xs ∧ k = !xs.isEmpty) ∨ (∃ xs, SqT X.K H p xs ∧ k = !xs.isEmpty) ∨ ∃ kvs, H p = some (.dK kvs) ∧ k = !kvs.isEmpty := e
    rcases e' with ⟨xs, hx, e'⟩ | ⟨xs, hx, e'⟩ | ⟨kvs, hx, e'⟩
    · subst e'
      obtain ⟨its, r, pl, hz⟩ := I.list hx
      have hlen := r.length
      exact wpAny_truthy_list pl.isList (by simp only [List.size_toArray]; omega) ⟨H, I.tok _, by rw [isEmpty_of r]; exact q⟩
    · subst e'
      obtain ⟨its, r, pl, hz⟩ := I.tuple hx
      have hlen := r.length
      exact truthy_tuple pl (by simp only [List.size_toArray]; omega) ⟨H, I.tok _, by rw [isEmpty_of r]; exact q⟩
    · subst e'
      obtain ⟨hz, hS, vs, r, m⟩ : kvs.length ≤ sizeLine ∧ (p == sysModules) = false ∧ ∃ vs, KV kvs vs ∧ s.heap.DictOf (mixKind X.prog X.w) p vs := I.hok p _ hx
      have hlen : kvs.length = vs.length := Paired.length r
      exact wpAny_truthy_dict hS m (by omega) ⟨H, I.tok _, by rw [isEmpty_kv r]; exact q⟩
  | _ => exact (show False from e).elim
/-- any expression whose test is its value's truth (a name, a call, a subscript, a field ..: he by fun _ => rfl) -/
theorem pt_truth (ha : PE X a ta) (he : ∀ whole, isTrue a X.env whole = (do let v ← whole; standAt a.pos; holding [v] (truthy v))) :
    PT X a (fun σ H Q => ta σ H fun x H' => ∃ k, TruV X.K x H' k ∧ Q k H') := by
  intro pins s σ H Q I h
  exact isTrue_plain (thn (ha pins s σ H _ I h) fun v s1 ⟨x, H1, I1, r1, q1⟩ => tru_ok pins s1 σ H1 x v Q I1 r1 q1) (he _)

/-! ### strs and bytes -/


/-! ### scalar builtins, by CallR -/
theorem vals1 {x : V} {us : List Value} (r : Vals [x] us) : ∃ u, us = [u] ∧ RelV x u := by
  cases r with
  | cons r1 r2 => cases r2; exact ⟨_, rfl, r1⟩
theorem vals2 {x y : V} {us : List Value} (r : Vals [x, y] us) : ∃ u w', us = [u, w'] ∧ RelV x u ∧ RelV y w' := by
  cases r with
  | cons r1 r2 =>
    cases r2 with
    | cons r3 r4 => cases r4; exact ⟨_, _, rfl, r1, r3⟩
theorem call_abs : CallR X (.builtin "abs") (fun xs H Q => ∃ i, xs = [.int i] ∧ Q (.int (if i < 0 then -i else i)) H) := by
  intro pins s σ H xs us Q I r h
  obtain ⟨i, rfl, q⟩ := h
  obtain ⟨u, rfl, t, rfl⟩ := vals1 r
  exact call_abs_int fun u tk => ⟨.int (if i < 0 then -i else i), H, I.tok _, ⟨_, rfl⟩, q⟩
theorem call_max2 (hc : X.calm = true) : CallR X (.builtin "max") (fun xs H Q => ∃ i j, xs = [.int i, .int j] ∧ Q (.int (if j > i then j else i)) H) := by
  intro pins s σ H xs us Q I r h
  obtain ⟨i, j, rfl, q⟩ := h
  obtain ⟨u, w', rfl, ⟨t, rfl⟩, ⟨t', rfl⟩⟩ := vals2 r
  refine max_two_ints (I.ok.hd hc) fun h' tk k => ⟨_, H, I.kept k, ?_, q⟩
  by_cases hj : j > i
  · rw [if_pos hj, if_pos hj]; exact ⟨_, rfl⟩
  · rw [if_neg hj, if_neg hj]; exact ⟨_, rfl⟩
theorem call_min2 (hc : X.calm = true) : CallR X (.builtin "min") (fun xs H Q => ∃ i j, xs = [.int i, .int j] ∧ Q (.int (if j < i then j else i)) H) := by
  intro pins s σ H xs us Q I r h
  obtain ⟨i, j, rfl, q⟩ := h
  obtain ⟨u, w', rfl, ⟨t, rfl⟩, ⟨t', rfl⟩⟩ := vals2 r
  refine min_two_ints (I.ok.hd hc) fun h' tk k => ⟨_, H, I.kept k, ?_, q⟩
  by_cases hj : j < i
  · rw [if_pos hj, if_pos hj]; exact ⟨_, rfl⟩
  · rw [if_neg hj, if_neg hj]; exact ⟨_, rfl⟩
end
end L2

namespace L2
open PySem PySem.Spec PyProof.Rows

/-! ### an instance, its attributes a map -/
structure ObjM (h : Heap) (x dx C : Addr) (mA : Str → Option Value) : Prop where
  obj : h.get? x = some (PySem.W.instObj C dx)
  ns : h.Ns1 dx mA
  ne : dx ≠ x

theorem lookIn_ns {h : Heap} {dx : Addr} {mA : Str → Option Value} (n : h.Ns1 dx mA) : ∃ od, h.get? dx = some od ∧ ∀ name, PySem.W.lookIn name od = some (mA name) := by
  obtain ⟨o, es, ep, ho, hd, hk, _, hm⟩ := n
  refine ⟨o, ho, fun name => ?_⟩
  have e := hm name
  unfold nsFind findBy at e
  rw [← Array.find?_toList] at e
  unfold PySem.W.lookIn
  rw [hd]
  dsimp only
  split
  · rename_i y q
    rw [q] at e
    exact congrArg some e
  · rename_i q
    rw [q] at e
    have a : es.toList.any (·.refKey) = false := by
      rw [List.any_eq_false]
      intro y hy
      obtain ⟨z, t, hkey⟩ := hk y (Array.mem_toList_iff.mp hy)
      simp [DictEntry.refKey, hkey]
    have a' : ¬ es.toList.any (·.refKey) = true := by rw [a]; exact Bool.false_ne_true
    rw [if_neg a']
    exact congrArg some e

theorem ObjM.look {h : Heap} {x dx C : Addr} {mA : Str → Option Value} (I : ObjM h x dx C mA) : ∃ od, PySem.W.InstAt h x (PySem.W.instObj C dx) C (some od) ∧ ∀ name, PySem.W.lookIn name od = some (mA name) :=
  let ⟨od, ho, hl⟩ := lookIn_ns I.ns
  ⟨od, ⟨I.obj, rfl, rfl, ho⟩, hl⟩

section
variable {prog : Program} {w : World} {A : Around} {E : Value → Shared → Prop} {s : Shared} {K : PySem.W.Frag} {x dx C f : Addr} {mA : Str → Option Value} {name : Str} {v : Value}

theorem get_map {expr : Bool} {Q : Value → Shared → Prop} (X : K.In s.heap) (I : ObjM s.heap x dx C mA) (hg : PySem.W.plainGet K C name = true) (hh : PySem.W.hasDictIn K C = true)
    (ha : PySem.W.findIn K (.ref C) name = some none) (hv : mA name = some v) (hv' : PySem.W.handedIn v = true) (h : Q v { s with toks := s.toks + 1 }) :
    wpAny (model prog w) A (getAttr (.ref x) name expr) Q E s := by
  obtain ⟨od, J, hl⟩ := I.look
  exact PySem.W.get_value X J (PySem.W.plainGet_of hg).1 (PySem.W.findObj_own hh ha rfl (by rw [hl, hv])) hv' h


theorem get_meth {pl : Sem Bool} {Q : Value × List Value → Shared → Prop} (X : K.In s.heap) (I : ObjM s.heap x dx C mA) (hg : PySem.W.plainGet K C name = true)
    (hf : PySem.W.findIn K (.ref C) name = some (some (.ref f))) (ht : PySem.W.isFn K (.ref f) = true) (hv : mA name = none) (h : Q (.ref f, [.ref x]) s) :
    wpAny (model prog w) A (getMethod (.ref x) name pl) Q E s := by
  obtain ⟨od, J, hl⟩ := I.look
  exact PySem.W.method_fn X J (PySem.W.plainGet_of hg).1 (PySem.W.plainGet_of hg).2 hf (beq_iff_eq.mp ht) (by show (PySem.W.lookIn name od).map (·.isSome) = some false; rw [hl, hv]; rfl) h

theorem set_map {ns : List Str} {Q : Unit → Shared → Prop} (X : K.In s.heap) (I : ObjM s.heap x dx C mA)
    (hs : PySem.W.findIn K (.ref C) "__setattr__" = some (some (.builtin "object.__setattr__"))) (hp : PySem.W.plainOver K C = true) (ht : PySem.W.takerIn K C name = some none) (hh : PySem.W.hasDictIn K C = true)
    (hw : PySem.Within mA ns) (hsz : ns.length ≤ sizeLine)
    (h : ∀ h', ObjM h' x dx C (fun y => if y = name then some v else mA y) → Heap.SameBut dx s.heap h' → Q () { s with heap := h', toks := s.toks + 2 }) :
    wpAny (model prog w) A (setAttr (.ref x) name v) Q E s := by
  obtain ⟨od, J, hl⟩ := I.look
  refine PySem.W.set_plain X J hs (PySem.W.osa_open (s := { s with toks := s.toks + 1 }) (r := none) X J hp ht fun b => ?_)
  obtain ⟨cd, hc, hd'⟩ := PySem.W.any_some hh
  have hx : s.heap.get? x = some ⟨.ref C, some dx, .plain, #[]⟩ := I.obj
  refine wpAny_bind (wpAny_pure (wpAny_bind (wpAny_bind (wpAny_loadPart hx (wpAny_bind (PySem.W.Looks.here (s := { s with toks := s.toks + 1 }) (PySem.W.looks_clsIn X hc) ?_))))))
  rw [hd']
  refine wpAny_pure (a := some dx) (wpAny_bind (wpAny_pure (wpAny_bind ?_)))
  refine wpAny_nsSet1 (s := { s with toks := s.toks + 1 }) I.ns fun h' hn2 hs2 => ?_
  obtain ⟨oD, esD, epD, hoD, hdD, hcD⟩ := hn2.count (PySem.Within.cons name v hw)
  refine wpAny_bind (wpAny_lookBehind hoD (by rw [hdD]; exact pastItsLine_dict (Nat.le_trans hcD (by rw [List.length_cons]; omega))) ?_)
  exact wpAny_pure (h _ ⟨(hs2.2 _ (Ne.symm I.ne)).trans I.obj, hn2, I.ne⟩ hs2)

/-- C(..): the dict at the heap's end, the instance behind it; then its __init__ -/
theorem make_map {R : Result → Shared → Prop} {vs : List Value} {kw : List (Str × Value)} (X : K.In s.heap) (hm : PySem.W.makesIn K C = true)
    (hi : PySem.W.findIn K (.ref C) "__init__" = some (some (.ref f))) (hf : PySem.W.typeIn K (.ref f) = some (.type "function"))
    (h : codeAny (model prog w) (A.under (.builtin "type.__call__" ⟨.ref C :: vs, kw⟩)) (.call (.ref f) ⟨.ref (s.heap.objs.size + 1) :: vs, kw⟩) (PySem.W.InitBack (s.heap.objs.size + 1) R)
      { s with heap := (s.heap.push PySem.W.emptyDict).push (PySem.W.instObj C s.heap.objs.size) }) :
    codeAny (model prog w) A (.call (.ref C) ⟨vs, kw⟩) R s := by
  obtain ⟨hh, g, d, t, os⟩ := s
  exact PySem.W.make_core (PySem.W.makes_of X hm) (PySem.W.looks_findIn X hi) (fun self => PySem.W.bind_fn X self hf) (.inl rfl) h
end

/-! ### the attributes as a list of pairs -/
def putF (f : Str) (v : V) : List (Str × V) → List (Str × V)
  | [] => [(f, v)]
  | (g, x) :: r => if g = f then (g, v) :: r else (g, x) :: putF f v r
theorem lookup_putF (f g : Str) (v : V) : ∀ fs : List (Str × V), (putF f v fs).lookup g = if g = f then some v else fs.lookup g
  | [] => by
    show List.lookup g [(f, v)] = _
    by_cases h : g = f
    · have hb : (g == f) = true := beq_iff_eq.mpr h
      simp only [List.lookup, hb, if_pos h]
    · have hb : (g == f) = false := beq_eq_false_iff_ne.mpr h
      simp only [List.lookup, hb, if_neg h]
  | (k, x) :: r => by
    have ih := lookup_putF f g v r
    rw [show putF f v ((k, x) :: r) = (if k = f then (k, v) :: r else (k, x) :: putF f v r) from rfl]
    by_cases hk : k = f
    · rw [if_pos hk]
      by_cases h : g = k
      · have hb : (g == k) = true := beq_iff_eq.mpr h
        simp only [List.lookup, hb, if_pos (h.trans hk)]
      · have hb : (g == k) = false := beq_eq_false_iff_ne.mpr h
        simp only [List.lookup, hb, if_neg (fun e : g = f => h (e.trans hk.symm))]
    · rw [if_neg hk]
      by_cases h : g = k
      · have hb : (g == k) = true := beq_iff_eq.mpr h
        simp only [List.lookup, hb, if_neg (fun e : g = f => hk (h.symm.trans e))]
      · have hb : (g == k) = false := beq_eq_false_iff_ne.mpr h
        simp only [List.lookup, hb]
        exact ih
theorem keys_putF (f : Str) (v : V) : ∀ fs : List (Str × V), f ∈ (putF f v fs).map (·.1) ∧ ∀ g, g ∈ fs.map (·.1) → g ∈ (putF f v fs).map (·.1)
  | [] => ⟨by simp [putF], fun g h => by simp at h⟩
  | (k, x) :: r => by
    obtain ⟨i1, i2⟩ := keys_putF f v r
    rw [show putF f v ((k, x) :: r) = (if k = f then (k, v) :: r else (k, x) :: putF f v r) from rfl]
    by_cases hk : k = f
    · rw [if_pos hk]
      subst hk
      exact ⟨by simp, fun g h => by simpa using h⟩
    · rw [if_neg hk]
      refine ⟨?_, fun g h => ?_⟩
      · rw [List.map_cons]
        exact List.mem_cons_of_mem _ i1
      · rw [List.map_cons] at h ⊢
        rcases List.mem_cons.mp h with e | e
        · exact List.mem_cons.mpr (.inl e)
        · exact List.mem_cons_of_mem _ (i2 g e)
theorem length_putF (f : Str) (v : V) : ∀ fs : List (Str × V), (putF f v fs).length ≤ fs.length + 1
  | [] => by simp [putF]
  | (k, x) :: r => by
    have ih := length_putF f v r
    rw [show putF f v ((k, x) :: r) = (if k = f then (k, v) :: r else (k, x) :: putF f v r) from rfl]
    by_cases hk : k = f
    · rw [if_pos hk, List.length_cons, List.length_cons]; omega
    · rw [if_neg hk, List.length_cons, List.length_cons]; omega

theorem RelO.some_of {v : V} {o : Option Value} (r : RelO (some v) o) : ∃ u, o = some u ∧ RelV v u := by
  cases o with
  | none => exact (show False from r).elim
  | some u => exact ⟨u, rfl, r⟩
theorem RelO.none_of {o : Option Value} (r : RelO none o) : o = none := by
  cases o with
  | none => rfl
  | some u => exact (show False from r).elim
theorem handed_of {v : V} {u : Value} (r : RelV v u) : PySem.W.handedIn u = true := by
  cases v with
  | non => cases (show u = Value.none from r); rfl
  | bl b => cases (show u = Value.bool b from r); rfl
  | int i => obtain ⟨t, e⟩ := (show ∃ t, u = Value.int i t from r); cases e; rfl
  | str x => obtain ⟨t, e⟩ := (show ∃ t, u = Value.str x t from r); cases e; rfl
  | byt b => obtain ⟨t, e⟩ := (show ∃ t, u = Value.bytes b t from r); cases e; rfl
  | flt b => obtain ⟨t, e⟩ := (show ∃ t, u = Value.float b t from r); cases e; rfl
  | ref a => cases (show u = Value.ref a from r); rfl
  | ty n => cases (show u = Value.type n from r); rfl

section
variable {P : Program} {w : World} {H H' : Hp} {h h' : Heap} {a C dx : Addr} {fs fs' : List (Str × V)}
theorem ins_get (hok : HOk P w H h) (e : H a = some (.ins C dx fs)) : ∃ mA, ObjM h a dx C mA ∧ (∀ f, RelO (fs.lookup f) (mA f)) ∧ PySem.Within mA (fs.map (·.1)) ∧ fs.length ≤ 1000 ∧ H dx = some (.own a) := by
  obtain ⟨d, z, ne, ob, mA, n, r, q⟩ := (show ObjOk P w H h a (.ins C dx fs) from hok a _ e)
  exact ⟨mA, ⟨ob, n, ne⟩, r, q, z, d⟩
end

/-! ### what of the text a class must have -/
structure Cls (K : PySem.W.Frag) (C : Addr) : Prop where
  pg : PySem.W.plainGet K C Str.empty = true
  hd : PySem.W.hasDictIn K C = true
  po : PySem.W.plainOver K C = true
  sa : PySem.W.findIn K (.ref C) "__setattr__" = some (some (.builtin "object.__setattr__"))
theorem Cls.get {K : PySem.W.Frag} {C : Addr} (c : Cls K C) (f : Str) : PySem.W.plainGet K C f = true := c.pg
/-- no class of it has the name -/
def NoAttr (K : PySem.W.Frag) (C : Addr) (f : Str) : Prop := PySem.W.findIn K (.ref C) f = some none
theorem NoAttr.taker {K : PySem.W.Frag} {C : Addr} {f : Str} (n : NoAttr K C f) : PySem.W.takerIn K C f = some none := by
  unfold PySem.W.takerIn
  rw [show PySem.W.findIn K (.ref C) f = some none from n]
  rfl
/-- a method: a plain def of the class or of one above it -/
structure Meth (K : PySem.W.Frag) (C : Addr) (m : Str) (f : Addr) : Prop where
  at_ : PySem.W.findIn K (.ref C) m = some (some (.ref f))
  fn : PySem.W.isFn K (.ref f) = true
  kp : PySem.W.keepIn K (.ref f) = true

section
variable {X : Cx} {pins : List (Addr × Obj)} {σ : St} {H : Hp} {s : Shared} {a C dx : Addr} {fs : List (Str × V)} {f : Str} {v : V} {A : Around} {E : Value → Shared → Prop}

theorem getattr_ok {b : Bool} {Q : Value → Shared → Prop} (I : Inv X pins σ H s) (e : H a = some (.ins C dx fs)) (c : Cls X.K C) (n : NoAttr X.K C f) (l : fs.lookup f = some v)
    (h : ∀ u s', Inv X pins σ H s' → RelV v u → Q u s') : wpAny (model X.prog X.w) A (getAttr (.ref a) f b) Q E s := by
  obtain ⟨mA, O, r, _, _, _⟩ := ins_get I.hok e
  obtain ⟨u, hu, ru⟩ := RelO.some_of (v := v) (o := mA f) (by rw [← l]; exact r f)
  exact get_map I.kIn O (c.get f) c.hd n hu (handed_of ru) (h u _ (I.tok _) ru)


theorem getmeth_ok {m : Str} {g : Addr} {pl : Sem Bool} {Q : Value × List Value → Shared → Prop} (I : Inv X pins σ H s) (e : H a = some (.ins C dx fs)) (c : Cls X.K C) (k : Meth X.K C m g) (l : fs.lookup m = none)
    (h : Q (.ref g, [.ref a]) s) : wpAny (model X.prog X.w) A (getMethod (.ref a) m pl) Q E s := by
  obtain ⟨mA, O, r, _, _, _⟩ := ins_get I.hok e
  have hn : mA m = none := RelO.none_of (by rw [← l]; exact r m)
  exact get_meth I.kIn O (c.get m) k.at_ k.fn hn h

theorem setattr_ok {y : V} {u : Value} {Q : Unit → Shared → Prop} (I : Inv X pins σ H s) (e : H a = some (.ins C dx fs)) (c : Cls X.K C) (n : NoAttr X.K C f) (hl : fs.length < 1000) (ry : RelV y u)
    (h : ∀ s', Inv X pins σ (upd H a (.ins C dx (putF f y fs))) s' → Q () s') : wpAny (model X.prog X.w) A (setAttr (.ref a) f u) Q E s := by
  obtain ⟨mA, O, r, wi, _, ho⟩ := ins_get I.hok e
  have hz : (fs.map (·.1)).length ≤ sizeLine := by rw [List.length_map, sizeLine_eq]; omega
  refine set_map I.kIn O c.sa c.po n.taker c.hd wi hz fun h' O' sb => h _ ?_
  have hd : ∃ o, h'.get? dx = some o := let ⟨o, _, _, e', _⟩ := O'.ns; ⟨o, e'⟩
  refine I.write (x := a) (e := dx) (by rw [e]; exact True.intro) (.inr ho) (fun b q hb z => (sb.2 b hb).trans z) hd ?_
  refine ⟨by rw [upd_ne O.ne]; exact ho, ?_, O.ne, O'.obj, _, O'.ns, fun g => ?_, fun g hg => ?_⟩
  · have := length_putF f y fs; omega
  · show RelO ((putF f y fs).lookup g) (if g = f then some u else mA g)
    rw [lookup_putF]
    by_cases q : g = f
    · rw [if_pos q, if_pos q]; exact ry
    · rw [if_neg q, if_neg q]; exact r g
  · by_cases q : g = f
    · rw [q]; exact (keys_putF f y fs).1
    · refine (keys_putF f y fs).2 g (wi g fun z => hg ?_)
      show (if g = f then some u else mA g) = none
      rw [if_neg q]; exact z

/-- a new instance, tracked, without attributes -/
theorem Inv.made (I : Inv X pins σ H s) : Inv X pins σ (upd (upd H s.heap.objs.size (.own (s.heap.objs.size + 1))) (s.heap.objs.size + 1) (.ins C s.heap.objs.size []))
    { s with heap := (s.heap.push PySem.W.emptyDict).push (PySem.W.instObj C s.heap.objs.size) } := by
  have e1 : (s.heap.push PySem.W.emptyDict).get? s.heap.objs.size = some PySem.W.emptyDict := Heap.get?_push_size s.heap rfl
  have e2 : ((s.heap.push PySem.W.emptyDict).push (PySem.W.instObj C s.heap.objs.size)).get? (s.heap.objs.size + 1) = some (PySem.W.instObj C s.heap.objs.size) := by
    have := Heap.get?_push_size (s.heap.push PySem.W.emptyDict) (o := PySem.W.instObj C s.heap.objs.size) rfl
    rwa [Heap.size_push] at this
  have e3 : (s.heap.push PySem.W.emptyDict).Ns s.heap.objs.size (fun _ => none) := ⟨PySem.W.emptyDict, #[], _, e1, rfl, (fun e he => absurd he (by simp)), fun _ => rfl⟩
  have I1 := I.laid (a := s.heap.objs.size) (o := .own (s.heap.objs.size + 1)) (h' := s.heap.push PySem.W.emptyDict) (t' := s.toks) (fun b u q => Heap.get?_push_of_some _ q) (Nat.le_refl _) ⟨_, e1⟩
  refine I1.laid (a := s.heap.objs.size + 1) (o := .ins C s.heap.objs.size []) (t' := s.toks) (fun b u q => Heap.get?_push_of_some _ q) (Nat.le_of_eq (Heap.size_push _ _)) ?_
  have ne : s.heap.objs.size ≠ s.heap.objs.size + 1 := Nat.ne_of_lt (Nat.lt_succ_self _)
  refine ⟨by rw [upd_ne ne, upd_same], Nat.zero_le _, ne, e2, fun _ => none, (Heap.Ns1.of_empty e3).at fun o q => Heap.get?_push_of_some _ q, fun _ => True.intro, fun y hy => absurd rfl hy⟩

/-- e.f where nothing but the object is asked: through attributeBase (super) and the last hold -/
theorem attr_of {prog : Program} {w : World} {env : Env} {e : Expr} {f : Str} {pos : Pos} {s : Shared} {Q : Value → Shared → Prop} (hb : attributeBase e f env (eval e env) = eval e env)
    (h : wpAny (model prog w) A (eval e env) (fun o s₁ => wpAny (model prog w) A (getAttr o f true) Q E s₁) E s) : wpAny (model prog w) A (eval (.Attribute e f pos) env) Q E s :=
  Attribute_any_ h (by rw [arm_eval_Attribute, hb])
end

/-! ### readings and rules -/
/-- e.f, an attribute of the instance -/
def tFld (K : PySem.W.Frag) (ta : TE) (f : Str) : TE := fun σ H Q => ta σ H fun x H1 => ∃ a C dx fs v, x = .ref a ∧ H1 a = some (.ins C dx fs) ∧ Cls K C ∧ NoAttr K C f ∧ fs.lookup f = some v ∧ Q v H1
/-- e.f = value -/
def sFld (K : PySem.W.Frag) (ta tv : TE) (f : Str) : TS := fun D σ H => tv σ H fun y H1 => ta σ H1 fun x H2 => ∃ a C dx fs, x = .ref a ∧ H2 a = some (.ins C dx fs) ∧ Cls K C ∧ NoAttr K C f ∧ fs.length < 1000 ∧
  D.nx σ (upd H2 a (.ins C dx (putF f y fs)))

section
variable {X : Cx} {o e value : Expr} {f : Str} {pos pos' tpos : Pos} {ta tv : TE}
theorem pe_fld (he : PE X e ta) (hb : attributeBase e f X.env (eval e X.env) = eval e X.env) : PE X (.Attribute e f pos) (tFld X.K ta f) := by
  intro pins s σ H Q I h
  refine attr_of hb (thn (he pins s σ H _ I h) fun u s1 ⟨x, H1, I1, rx, a, C, dx, fs, v, ex, ea, c, n, l, q⟩ => ?_)
  subst ex
  obtain rfl : u = Value.ref a := rx
  exact getattr_ok I1 ea c n l fun u' s2 I2 ru => ⟨v, H1, I2, ru, q⟩
theorem ps_fld (ha : PE X o ta) (hv : PE X value tv) (hs : swapsWith value (some (.Attribute o f pos')) pos.line X.env = pure false) : PS X (.Assign [.Attribute o f pos'] value pos) (sFld X.K ta tv f) := by
  intro pins s σ H D I h
  refine plainObj_wpAny_Assign_Attribute (thn (hv pins s σ H _ I h) fun u s1 ⟨y, H1, I1, ry, q⟩ => thn (ha pins s1 σ H1 _ I1 q) fun ov s2 ⟨x, H2, I2, rx, a, C, dx, fs, ex, ea, c, n, l, q2⟩ => ?_) hs
  subst ex
  obtain rfl : ov = Value.ref a := rx
  exact setattr_ok I2 ea c n l ry fun s3 I3 => ⟨σ, _, I3, q2⟩

end

/-! ### isinstance -/
section
variable {X : Cx} {pins : List (Addr × Obj)} {σ : St} {H : Hp} {s : Shared} {A : Around} {E : Value → Shared → Prop} {Q : Value → Shared → Prop} {c : Value} {b : Bool}
/-- the type of a value, as the fragment's deciders take it; for an instance its class -/
inductive TyOf (K : PySem.W.Frag) (H : Hp) : V → Value → Prop where
  | non : TyOf K H .non (.type "NoneType")
  | bl (x : Bool) : TyOf K H (.bl x) (.type "bool")
  | int (i : Int) : TyOf K H (.int i) (.type "int")
  | str (x : Str) : TyOf K H (.str x) (.type "str")
  | flt (x : UInt64) : TyOf K H (.flt x) (.type "float")
  | lst {a : Addr} {xs : List V} (e : H a = some (.lst xs)) : TyOf K H (.ref a) (.type "list")
  | frz {a : Addr} {o : Obj} {xs : List V} (e : H a = some (.frz o (.lst xs))) : TyOf K H (.ref a) (.type "list")
  | tup {a : Addr} {xs : List V} (e : H a = some (.tup xs)) : TyOf K H (.ref a) (.type "tuple")
  | dK {a : Addr} {kvs : List (Key × V)} (e : H a = some (.dK kvs)) : TyOf K H (.ref a) (.type "dict")
  | dT {a : Addr} {kvs : List (List Key × V)} (e : H a = some (.dT kvs)) : TyOf K H (.ref a) (.type "dict")
  | ins {a C dx : Addr} {fs : List (Str × V)} (e : H a = some (.ins C dx fs)) (cl : Cls K C) (ha : PySem.W.findIn K (.ref C) "__class__" = some (some (.builtin "object.__class__")))
      (hn : PySem.W.specialIn K (.builtin "object.__class__") "__get__" = some (some (.builtin "getset_descriptor.__get__"))) (htk : PySem.W.takesIn K (.builtin "object.__class__") = some true)
      (hm : PySem.W.mroIn K C (.type "object") = some true) : TyOf K H (.ref a) (.ref C)
/-- isinstance(x, c) for one class c, a built-in or an own one: kitOne's answer -/
theorem isinst_ok {x : V} {u t : Value} (I : Inv X pins σ H s) (rx : RelV x u) (ty : TyOf X.K H x t) (e : PySem.W.kitOne X.K t c = some b) (h : ∀ tk, Q (.bool b) { s with toks := tk }) :
    wpAny (model X.prog X.w) A (call (.builtin "isinstance") [u, c]) Q E s := by
  cases ty with
  | non => cases (show u = Value.none from rx); exact PySem.W.kia_one PySem.W.kitx_none I.kIn True.intro e (fun z => nomatch z) h
  | bl y => cases (show u = Value.bool y from rx); exact PySem.W.kia_one PySem.W.kitx_bool I.kIn True.intro e (fun z => nomatch z) h
  | int i => obtain ⟨t, q⟩ := (show ∃ t, u = Value.int i t from rx); cases q; exact PySem.W.kia_one PySem.W.kitx_int I.kIn True.intro e (fun z => nomatch z) h
  | str y => obtain ⟨t, q⟩ := (show ∃ t, u = Value.str y t from rx); cases q; exact PySem.W.kia_one PySem.W.kitx_str I.kIn True.intro e (fun z => nomatch z) h
  | flt y => obtain ⟨t, q⟩ := (show ∃ t, u = Value.float y t from rx); cases q; exact PySem.W.kia_one PySem.W.kitx_float I.kIn True.intro e (fun z => nomatch z) h
  | @lst a xs ea =>
    cases (show u = Value.ref a from rx)
    obtain ⟨_, _, n, _, h1⟩ := (show ObjOk X.prog X.w H s.heap a (.lst xs) from I.hok a _ ea)
    exact PySem.W.kia_one PySem.W.kitx_list I.kIn ⟨_, h1, rfl⟩ e (fun z => nomatch z) h
  | @frz a ob xs ea =>
    cases (show u = Value.ref a from rx)
    obtain ⟨_, _, _, n, _, h1⟩ := (show ObjOk X.prog X.w H s.heap a (.frz ob (.lst xs)) from I.hok a _ ea)
    exact PySem.W.kia_one PySem.W.kitx_list I.kIn ⟨_, h1, rfl⟩ e (fun z => nomatch z) h
  | @tup a xs ea =>
    cases (show u = Value.ref a from rx)
    obtain ⟨_, _, _, p⟩ := (show ObjOk X.prog X.w H s.heap a (.tup xs) from I.hok a _ ea)
    obtain ⟨o, h1, h2, _⟩ := p
    exact PySem.W.kia_one PySem.W.kitx_tuple I.kIn ⟨o, h1, h2⟩ e (fun z => nomatch z) h
  | @dK a kvs ea =>
    cases (show u = Value.ref a from rx)
    obtain ⟨_, _, vs, _, p⟩ := (show ObjOk X.prog X.w H s.heap a (.dK kvs) from I.hok a _ ea)
    obtain ⟨o, es, ep, h1, h2, _⟩ := p
    exact PySem.W.kia_one PySem.W.kitx_dict I.kIn ⟨o, h1, h2.1⟩ e (fun z => nomatch z) h
  | @dT a kvs ea =>
    cases (show u = Value.ref a from rx)
    obtain ⟨_, _, xs, _, o, es, ep, h1, h2, _⟩ := (show ObjOk X.prog X.w H s.heap a (.dT kvs) from I.hok a _ ea)
    exact PySem.W.kia_one PySem.W.kitx_dict I.kIn ⟨o, h1, h2.1⟩ e (fun z => nomatch z) h
  | @ins a C dx fs ea cl ha hn htk hm =>
    cases (show u = Value.ref a from rx)
    obtain ⟨mA, O, _⟩ := ins_get I.hok ea
    obtain ⟨od, J, _⟩ := O.look
    exact PySem.W.kia_one (PySem.W.kitx_own (cl.get _) cl.hd ha hn htk hm) I.kIn J e (fun z => nomatch z) h
end
end L2

namespace L2
open PySem PySem.Spec PyProof.Rows

/-! ### room -/
structure Room (k : Nat) (A : Around) : Prop where
  hd : A.handled = none
  dp : A.depth + 3 * k + 5 < recursionLimit
  un : A.units + 16 * k + 200 < cLine
theorem Room.mono {j k : Nat} {A : Around} (r : Room k A) (h : j ≤ k) : Room j A := ⟨r.hd, by have := r.dp; omega, by have := r.un; omega⟩
theorem Room.deeper {k : Nat} {A : Around} (r : Room (k + 1) A) (env : Env) : Room k (A.deeper env) :=
  ⟨r.hd, by have := r.dp; show A.depth + 1 + 3 * k + 5 < _; omega, by have := r.un; show A.units + 3 + 16 * k + 200 < _; omega⟩
theorem make_depth {A : Around} {C : Addr} {us : List Value} {kw : List (Str × Value)} : (A.under (.builtin "type.__call__" ⟨.ref C :: us, kw⟩)).depth = A.depth + 1 := by
  first | rfl | simp [Around.under, Code.weight, Code.isCreation, Code.isGuard, Code.isCaller, Code.frames, Code.isFrame, guardIds]
theorem make_units {A : Around} {C : Addr} {us : List Value} {kw : List (Str × Value)} : (A.under (.builtin "type.__call__" ⟨.ref C :: us, kw⟩)).units = A.units + 1 := by
  first | rfl | simp [Around.under, Code.cUnits, Code.frames, Code.isFrame]
theorem Room.make {k : Nat} {A : Around} (r : Room (k + 1) A) (C : Addr) (us : List Value) (kw : List (Str × Value)) : Room k (A.under (.builtin "type.__call__" ⟨.ref C :: us, kw⟩)) :=
  ⟨r.hd, by have := r.dp; rw [make_depth]; omega, by have := r.un; rw [make_units]; omega⟩
theorem Room.depth {k : Nat} {A : Around} (r : Room k A) : A.depth < recursionLimit := by have := r.dp; omega
theorem Room.units {k : Nat} {A : Around} (r : Room k A) : A.units + 64 < cLine := by have := r.un; omega

/-! ### argument lists and displays -/
def tNil : TA := fun _ H Q => Q [] H
def tCons (ta : TE) (tr : TA) : TA := fun σ H Q => ta σ H fun x H1 => tr σ H1 fun xs H2 => Q (x :: xs) H2
section
variable {X : Cx} {e : Expr} {es : List Expr} {te : TE} {t : TA} {pos : Pos}
theorem pa_nil : PA X [] tNil := fun _ _ _ _ H Q I h => Calls.spliced_nil ⟨[], H, I, .nil, h⟩
theorem pa_cons (ha : PE X e te) (hr : PA X es t) (hs : starEach (e :: es) X.env = (false, eval e X.env) :: starEach es X.env := by rfl) : PA X (e :: es) (tCons te t) := by
  intro pos pins s σ H Q I h
  rw [hs]
  show wpAny _ _ (spliced ((false, eval e X.env) :: backTo pos (starEach es X.env))) _ _ s
  refine Calls.spliced_cons (thn (ha pins s σ H _ I h) fun u s1 ⟨x, H1, I1, r1, q1⟩ => ?_)
  exact thn (hr pos pins s1 σ H1 _ I1 q1) fun us s2 ⟨xs, H2, I2, r2, q2⟩ => ⟨x :: xs, H2, I2, .cons r1 r2, q2⟩

/-- a tuple, a list of written items -/
def tTup (t : TA) : TE := fun σ H Q => t σ H fun xs H1 => xs.length ≤ sizeLine ∧ ∀ p, H1 p = none → Q (.ref p) (upd H1 p (.tup xs))
def tLst (t : TA) : TE := fun σ H Q => t σ H fun xs H1 => xs.length ≤ sizeLine ∧ ∀ p, H1 p = none → Q (.ref p) (upd H1 p (.lst xs))
theorem pe_tup {x1} (h : PA X es t) : PE X (.Tuple es x1 pos) (tTup t) := by
  intro pins s σ H Q I hq
  refine wpAny_Tuple_spliced (thn (h pos pins s σ H _ I hq) fun us s1 ⟨xs, H1, I1, r, z, q⟩ => ⟨by rw [← r.length]; exact z, ?_⟩)
  have hf : H1 s1.heap.objs.size = none := I1.hok.fresh (Nat.le_refl _)
  refine ⟨.ref s1.heap.objs.size, upd H1 s1.heap.objs.size (.tup xs), I1.laid (t' := s1.toks) (fun b u e => Heap.get?_push_of_some _ e) (Nat.le_refl _) ?_, rfl, q _ hf⟩
  exact ⟨z, us, r, ⟨_, Heap.get?_push_size _ rfl, rfl, _, rfl⟩⟩
theorem pe_lst (h : PA X es t) : PE X (.List es pos) (tLst t) := by
  intro pins s σ H Q I hq
  refine wpAny_List_spliced (thn (h pos pins s σ H _ I hq) fun us s1 ⟨xs, H1, I1, r, z, q⟩ => ⟨by rw [← r.length]; exact z, ?_⟩)
  have hf : H1 s1.heap.objs.size = none := I1.hok.fresh (Nat.le_refl _)
  refine ⟨.ref s1.heap.objs.size, upd H1 s1.heap.objs.size (.lst xs), I1.laid (t' := s1.toks) (fun b u e => Heap.get?_push_of_some _ e) (Nat.le_refl _) ?_, rfl, q _ hf⟩
  exact ⟨z, us, 0, r, Heap.get?_push_size _ rfl⟩
end

/-! ### what a def promises -/
/-- a def's promise: the bound arguments in the parameters' order, the heap, the wanted end, the wanted exception -/
abbrev Sp := List V → Hp → VK → XK → Prop
/-- how an exception lies behind a call (file 08 gives it): the callers' frames, abstract heap and state ahead of the call, the wish, the exception, the state -/
abbrev CXT := List Env → Hp → Shared → XK → Value → Shared → Prop

/-- the state at a call -/
structure Env0 (P : Program) (w : World) (K : PySem.W.Frag) (mg : Str → Option Value) (base : Heap) (A : Around) (outer : List Env) (s : Shared) (H : Hp) : Prop where
  frames : A.frames = some outer
  mod : Mod K mg base
  bs : ∀ b o, base.get? b = some o → s.heap.get? b = some o ∧ H b = none
  bsz : base.objs.size ≤ s.heap.objs.size
  funs : s.heap.FunFrames base outer
  frf : ∀ b ∈ frs outer, H b = none
  hok : HOk P w H s.heap
  bare : AllBare s.gens
/-- a call's end -/
def CE (outer : List Env) (P : Program) (w : World) (H : Hp) (s : Shared) (Q : VK) (u : Value) (s' : Shared) : Prop :=
  ∃ v H', s'.os = s.os ∧ AllBare s'.gens ∧ Un (frs outer) [] H H' s.heap s'.heap ∧ HOk P w H' s'.heap ∧ RelV v u ∧ Q v H'
def CR (CX : CXT) (outer : List Env) (P : Program) (w : World) (H : Hp) (s : Shared) (Q : VK) (E : XK) (r : Result) (s' : Shared) : Prop :=
  match r with
  | .ok (.ret u) => CE outer P w H s Q u s'
  | .ok _ => False
  | .error e => CX outer H s E e s'
structure FnOk (P : Program) (w : World) (K : PySem.W.Frag) (mg : Str → Option Value) (base : Heap) (CX : CXT) (k : Nat) (f : Addr) (fd : FuncData) (ps : List Str) (sp : Sp) : Prop where
  len : ∀ vs H Q E, sp vs H Q E → vs.length = ps.length
  run : ∀ (A : Around) (outer : List Env) (s : Shared) (H : Hp) (args : Args) (us : List Value) (vs : List V) (Q : VK) (E : XK), Room k A → Env0 P w K mg base A outer s H → BindsTo s fd args (ps.zip us) → Vals vs us → sp vs H Q E →
    codeAny (model P w) A (.call (.ref f) args) (CR CX outer P w H s Q E) s

theorem Env0.make {P : Program} {w : World} {K : PySem.W.Frag} {mg : Str → Option Value} {base : Heap} {A : Around} {outer : List Env} {s : Shared} {H : Hp} (e : Env0 P w K mg base A outer s H) (C : Addr) (us : List Value) (kw : List (Str × Value)) :
    Env0 P w K mg base (A.under (.builtin "type.__call__" ⟨.ref C :: us, kw⟩)) outer s H := ⟨by first | exact e.frames | (simpa [Around.under, Code.envs, Code.isFrame, pushEnvs] using e.frames), e.mod, e.bs, e.bsz, e.funs, e.frf, e.hok, e.bare⟩

section
variable {X : Cx} {pins : List (Addr × Obj)} {σ : St} {H : Hp} {s s' : Shared}
/-- from a body: what a callee wants -/
theorem Inv.env0 (I : Inv X pins σ H s) : Env0 X.prog X.w X.K X.mg X.base X.A X.stack s H :=
  ⟨I.ok.frames, I.ok.mod, I.bs, Nat.le_trans I.ok.bsz I.sz, I.stack, I.stkFree, I.hok, I.bare⟩
/-- behind a call -/
theorem Inv.after {Q : VK} {u : Value} (I : Inv X pins σ H s) (h : CE X.stack X.prog X.w H s Q u s') : EP X pins σ Q u s' := by
  obtain ⟨v, H', os, bare, un, hok, r, q⟩ := h
  obtain ⟨hh, g, d, t, os'⟩ := s'
  obtain rfl : os' = s.os := os
  exact ⟨v, H', I.call (h' := hh) (g' := g) (d' := d) (t' := t) (ch := []) un hok bare (fun b z => absurd z (by simp)), r, q⟩
end

/-! ### calls -/
/-- f(..): the written arguments, then the defaults dvs; E: what is wanted of an exception -/
def tCall (sp : Sp) (dvs : List V) (E : XK) (t : TA) : TE := fun σ H Q => t σ H fun vs H1 => sp (vs ++ dvs) H1 Q E
/-- o.m(..) of an instance of the class at C -/
def tMeth (C : Addr) (m : Str) (sp : Sp) (dvs : List V) (E : XK) (ta : TE) (t : TA) : TE := fun σ H Q => ta σ H fun x H1 => ∃ a dx fs, x = .ref a ∧ H1 a = some (.ins C dx fs) ∧ fs.lookup m = none ∧
  t σ H1 fun vs H2 => sp (x :: (vs ++ dvs)) H2 Q E
/-- C(..): a new instance and its dict, then __init__ -/
def tMake (C : Addr) (sp : Sp) (dvs : List V) (E : XK) (t : TA) : TE := fun σ H Q => t σ H fun vs H1 => ∀ x dx, H1 x = none → H1 dx = none → dx ≠ x →
  sp (.ref x :: (vs ++ dvs)) (upd (upd H1 dx (.own x)) x (.ins C dx [])) (fun v H2 => v = .non ∧ Q (.ref x) H2) E

/-- how the parameters are bound: us the positional arguments, kw the keywords' values by name, ds the defaults that fill up -/
def Binds (K : PySem.W.Frag) (fd : FuncData) (ps : List Str) (ds : List Value) : Prop :=
  ∀ (s : Shared) (us : List Value), K.In s.heap → (us ++ ds).length = ps.length → BindsTo s fd ⟨us, []⟩ (ps.zip (us ++ ds))
/-- every parameter is given -/
theorem Binds.all {K : PySem.W.Frag} {fd : FuncData} {ps : List Str} (h : ∀ us : List Value, us.length = ps.length → bindArgs fd ⟨us, []⟩ = pure (ps.zip us)) : Binds K fd ps [] := fun s us _ hl => by
  rw [List.append_nil] at hl ⊢
  exact .of_eq (h us hl)

/-- an exception of a callee reaches what this body wants of exceptions -/
def Passes (CX : CXT) (X : Cx) (E : XK) : Prop := ∀ (pins : List (Addr × Obj)) (σ : St) (H : Hp) (s : Shared) (e : Value) (s' : Shared), Inv X pins σ H s → CX X.stack H s E e s' → X.xe e s'

section
variable {X : Cx} {CX : CXT} {k : Nat} {f C : Addr} {fd : FuncData} {ps : List Str} {sp : Sp} {dvs : List V} {ds : List Value} {E : XK} {x m : Str} {p pos apos : Pos} {e o : Expr} {es : List Expr} {ta : TE} {t : TA}

/-- the callee runs -/
theorem run_fn {pins : List (Addr × Obj)} {σ : St} {H : Hp} {s : Shared} {Q : VK} {us : List Value} {vs : List V} (F : FnOk X.prog X.w X.K X.mg X.base CX k f fd ps sp) (hr : Room k X.A) (hb : Binds X.K fd ps ds) (hd : Vals dvs ds) (hx : Passes CX X E)
    (I : Inv X pins σ H s) (r : Vals vs us) (h : sp (vs ++ dvs) H Q E) : wpAny (model X.prog X.w) X.A (call (.ref f) us) (EP X pins σ Q) X.xe s := by
  have r2 : Vals (vs ++ dvs) (us ++ ds) := r.append hd
  have hl : (us ++ ds).length = ps.length := by rw [← r2.length]; exact F.len _ _ _ _ h
  refine wpAny_call (codeAny_mono (F.run X.A X.stack s H ⟨us, []⟩ (us ++ ds) (vs ++ dvs) Q E hr I.env0 (hb s us I.kIn hl) r2 h) fun r s' hq => ?_)
  cases r with
  | error e => exact hx pins σ H s e s' I hq
  | ok fl =>
    cases fl with
    | ret u => exact I.after hq
    | next => exact False.elim hq
    | brk => exact False.elim hq
    | cont => exact False.elim hq

theorem pe_call (F : FnOk X.prog X.w X.K X.mg X.base CX k f fd ps sp) (hr : Room k X.A) (hg : Gl X x) (hm : X.mg x = some (.ref f)) (hk : PySem.W.keepIn X.K (.ref f) = true) (hb : Binds X.K fd ps ds) (hd : Vals dvs ds) (hx : Passes CX X E)
    (ha : PA X (e :: es) t) (hdb : (x == ("__debug__" : Str)) = false := by decide) (he : starEach (e :: es) X.env = (false, eval e X.env) :: starEach es X.env := by rfl) (hpl : (backTo pos (starEach es X.env)).any (·.1) = false := by rfl) :
    PE X (.Call (.Name x p) (e :: es) [] pos) (tCall sp dvs E t) := by
  intro pins s σ H Q I h
  refine wpAny_Call_Name_kw (ld_glob I hg hm ?_ hdb)
  refine PySem.W.callWith_K (h₀ := X.base) I.ok.mod.kin hk (thn (ha pos pins s σ H _ I h) fun us s1 ⟨vs, H1, I1, r, q⟩ => ⟨I1.kIn, ?_⟩) he hpl
  exact run_fn F hr hb hd hx I1 r q

/-- o.m(e, ..) -/
theorem pe_meth {pl : Sem Bool} (he : PE X o ta) (c : Cls X.K C) (hm : Meth X.K C m f) (F : FnOk X.prog X.w X.K X.mg X.base CX k f fd ps sp) (hr : Room k X.A) (hb : Binds X.K fd ps ds) (hd : Vals dvs ds) (hx : Passes CX X E) (ha : PA X (e :: es) t)
    (hst : starEach (e :: es) X.env = (false, eval e X.env) :: starEach es X.env := by rfl) (hpl : (backTo pos (starEach es X.env)).any (·.1) = false := by rfl)
    (ht : eval (.Call (.Attribute o m apos) (e :: es) [] pos) X.env = (do
      let ov ← eval o X.env
      standAt apos.atName
      let (f, first) ← holding [ov] (getMethod ov m pl)
      callWith pos f first (backTo pos (starEach (e :: es) X.env)) (backToKw pos (keywordEach [] X.env))) := by rfl) :
    PE X (.Call (.Attribute o m apos) (e :: es) [] pos) (tMeth C m sp dvs E ta t) := by
  intro pins s σ H Q I h
  refine PySem.W.methodCall_KW (pl := pl) (thn (he pins s σ H _ I h) fun u s1 ⟨x, H1, I1, rx, a, dx, fs, ex, ea, l, q⟩ => ?_) ht
  subst ex
  obtain rfl : u = Value.ref a := rx
  refine getmeth_ok I1 ea c hm l ?_
  refine PySem.W.callWith_K (first := [.ref a]) (h₀ := X.base) I.ok.mod.kin hm.kp (thn (ha pos pins s1 σ H1 _ I1 q) fun us s2 ⟨vs, H2, I2, r, q2⟩ => ⟨I2.kIn, ?_⟩) hst hpl
  exact run_fn (us := .ref a :: us) (vs := .ref a :: vs) F hr hb hd hx I2 (.cons rfl r) q2
/-- o.m() -/
theorem pe_meth0 {pl : Sem Bool} (he : PE X o ta) (c : Cls X.K C) (hm : Meth X.K C m f) (F : FnOk X.prog X.w X.K X.mg X.base CX k f fd ps sp) (hr : Room k X.A) (hb : Binds X.K fd ps ds) (hd : Vals dvs ds) (hx : Passes CX X E)
    (ht : eval (.Call (.Attribute o m apos) [] [] pos) X.env = (do
      let ov ← eval o X.env
      standAt apos.atName
      let (f, first) ← holding [ov] (getMethod ov m pl)
      callWith pos f first (backTo pos (starEach [] X.env)) (backToKw pos (keywordEach [] X.env))) := by rfl) :
    PE X (.Call (.Attribute o m apos) [] [] pos) (tMeth C m sp dvs E ta tNil) := by
  intro pins s σ H Q I h
  refine PySem.W.methodCall_KW (pl := pl) (thn (he pins s σ H _ I h) fun u s1 ⟨x, H1, I1, rx, a, dx, fs, ex, ea, l, q⟩ => ?_) ht
  subst ex
  obtain rfl : u = Value.ref a := rx
  refine getmeth_ok I1 ea c hm l ?_
  exact PySem.W.callWith_K0 (first := [.ref a]) I1.kIn hm.kp (run_fn (us := [.ref a]) (vs := [.ref a]) F hr hb hd hx I1 (.cons rfl .nil) q)

/-- what a class must have to be made -/
structure Mk (K : PySem.W.Frag) (C f : Addr) : Prop where
  makes : PySem.W.makesIn K C = true
  init : PySem.W.findIn K (.ref C) "__init__" = some (some (.ref f))
  fn : PySem.W.isFn K (.ref f) = true
  kp : PySem.W.keepIn K (.ref C) = true

theorem run_make {pins : List (Addr × Obj)} {σ : St} {H : Hp} {s : Shared} {Q : VK} {us : List Value} {vs : List V} (M : Mk X.K C f) (F : FnOk X.prog X.w X.K X.mg X.base CX k f fd ps sp) (hr : Room (k + 1) X.A) (hb : Binds X.K fd ps ds) (hd : Vals dvs ds)
    (hx : Passes CX X E) (I : Inv X pins σ H s) (r : Vals vs us)
    (h : ∀ x dx, H x = none → H dx = none → dx ≠ x → sp (.ref x :: (vs ++ dvs)) (upd (upd H dx (.own x)) x (.ins C dx [])) (fun v H2 => v = .non ∧ Q (.ref x) H2) E) :
    wpAny (model X.prog X.w) X.A (call (.ref C) us) (EP X pins σ Q) X.xe s := by
  have hq := h (s.heap.objs.size + 1) s.heap.objs.size (I.hok.fresh (Nat.le_succ _)) (I.hok.fresh (Nat.le_refl _)) (Nat.ne_of_lt (Nat.lt_succ_self _))
  have I2 := Inv.made (C := C) I
  have r2 : Vals (V.ref (s.heap.objs.size + 1) :: (vs ++ dvs)) (Value.ref (s.heap.objs.size + 1) :: (us ++ ds)) := .cons rfl (r.append hd)
  have hl : (Value.ref (s.heap.objs.size + 1) :: us ++ ds).length = ps.length := by
    have e := r2.length
    rw [F.len _ _ _ _ hq] at e
    exact e.symm
  refine wpAny_call (make_map (f := f) I.kIn M.makes M.init (beq_iff_eq.mp M.fn) (codeAny_mono (F.run _ X.stack _ _ ⟨Value.ref (s.heap.objs.size + 1) :: us, []⟩ (Value.ref (s.heap.objs.size + 1) :: (us ++ ds)) _ _ E (hr.make C us [])
    (I2.env0.make C us []) (hb _ (Value.ref (s.heap.objs.size + 1) :: us) I2.kIn hl) r2 hq) fun r s' hq' => ?_))
  cases r with
  | error e => exact hx pins σ _ _ e s' I2 hq'
  | ok fl =>
    cases fl with
    | ret u =>
      obtain ⟨v, H', I3, rv, ev, q3⟩ := I2.after hq'
      subst ev
      exact ⟨rv, ⟨V.ref (s.heap.objs.size + 1), H', I3, rfl, q3⟩⟩
    | next => exact False.elim hq'
    | brk => exact False.elim hq'
    | cont => exact False.elim hq'
theorem pe_make (M : Mk X.K C f) (F : FnOk X.prog X.w X.K X.mg X.base CX k f fd ps sp) (hr : Room (k + 1) X.A) (hg : Gl X x) (hm : X.mg x = some (.ref C)) (hb : Binds X.K fd ps ds) (hd : Vals dvs ds) (hx : Passes CX X E)
    (ha : PA X (e :: es) t) (hdb : (x == ("__debug__" : Str)) = false := by decide) (he : starEach (e :: es) X.env = (false, eval e X.env) :: starEach es X.env := by rfl) (hpl : (backTo pos (starEach es X.env)).any (·.1) = false := by rfl) :
    PE X (.Call (.Name x p) (e :: es) [] pos) (tMake C sp dvs E t) := by
  intro pins s σ H Q I h
  refine wpAny_Call_Name_kw (ld_glob I hg hm ?_ hdb)
  refine PySem.W.callWith_K (h₀ := X.base) I.ok.mod.kin M.kp (thn (ha pos pins s σ H _ I h) fun us s1 ⟨vs, H1, I1, r, q⟩ => ⟨I1.kIn, ?_⟩) he hpl
  exact run_make M F hr hb hd hx I1 r q
end

/-! ### keywords -/
section
variable {X : Cx} {CX : CXT} {k : Nat} {f C : Addr} {fd : FuncData} {ps ks : List Str} {sp : Sp} {E : XK} {x m : Str} {p pos apos kpos : Pos} {e o : Expr} {es : List Expr} {kws : List Keyword} {te ta : TE} {t tk : TA} {nm : Option Str}

variable {g : List Value → List Value → List Value} {gV : List V → List V → List V}
end

/-! ### a def's body keeps its promise -/
/-- names: the parameters first -/
structure FnScope (N P : List Str) (sc : Scope) : Prop where
  kind : sc.kind = .function
  co : sc.isCoroutine = false
  gen : sc.isGenerator = false
  nd : N.Nodup
  pre : N.take P.length = P
  par : ∀ x ∈ P, sc.names.lookup x = some .local ∨ sc.names.lookup x = some .cell
  nofree : ∀ y ∈ sc.names, y.2 ≠ .free

theorem bindL_out {kindOf : Str → Option NameKind} {x : Str} : ∀ {binds : List (Str × Value)} {m : Str → Option Value}, (∀ v, (x, v) ∉ binds) → bindL kindOf binds m x = m x
  | [], _, _ => rfl
  | (n, v) :: r, m, h => by
    unfold bindL
    rw [bindL_out fun w hw => h w (List.mem_cons_of_mem _ hw)]
    split
    · have : x ≠ n := by rintro rfl; exact h v List.mem_cons_self
      simp [this]
    · rfl
theorem bindC_out {kindOf : Str → Option NameKind} {x : Str} : ∀ {binds : List (Str × Value)} {m : Str → Option Value}, (∀ v, (x, v) ∉ binds) → bindC kindOf binds m x = m x
  | [], _, _ => rfl
  | (n, v) :: r, m, h => by
    unfold bindC
    rw [bindC_out fun w hw => h w (List.mem_cons_of_mem _ hw)]
    split
    · rfl
    · have : x ≠ n := by rintro rfl; exact h v List.mem_cons_self
      simp [this]
theorem bindL_get {kindOf : Str → Option NameKind} {x : Str} {v : Value} : ∀ {P : List Str} {vs : List Value} {i : Nat} {m : Str → Option Value}, P.Nodup → P[i]? = some x → vs[i]? = some v → kindOf x = some .local →
    bindL kindOf (P.zip vs) m x = some v
  | [], _, _, _, _, h, _, _ => by simp at h
  | _ :: _, [], _, _, _, _, h, _ => by simp at h
  | p :: P, w :: vs, 0, m, nd, h1, h2, hk => by
    simp at h1 h2; subst h1; subst h2
    show bindL kindOf ((p, w) :: P.zip vs) m p = _
    unfold bindL
    rw [bindL_out fun v hv => (List.nodup_cons.mp nd).1 (List.of_mem_zip hv).1, if_pos hk]
    simp
  | p :: P, w :: vs, i + 1, m, nd, h1, h2, hk => by
    show bindL kindOf ((p, w) :: P.zip vs) m x = _
    unfold bindL
    exact bindL_get (i := i) (List.nodup_cons.mp nd).2 (by simpa using h1) (by simpa using h2) hk
theorem bindC_get {kindOf : Str → Option NameKind} {x : Str} {v : Value} : ∀ {P : List Str} {vs : List Value} {i : Nat} {m : Str → Option Value}, P.Nodup → P[i]? = some x → vs[i]? = some v → kindOf x ≠ some .local →
    bindC kindOf (P.zip vs) m x = some v
  | [], _, _, _, _, h, _, _ => by simp at h
  | _ :: _, [], _, _, _, _, h, _ => by simp at h
  | p :: P, w :: vs, 0, m, nd, h1, h2, hk => by
    simp at h1 h2; subst h1; subst h2
    show bindC kindOf ((p, w) :: P.zip vs) m p = _
    unfold bindC
    rw [bindC_out fun v hv => (List.nodup_cons.mp nd).1 (List.of_mem_zip hv).1, if_neg hk]
    simp
  | p :: P, w :: vs, i + 1, m, nd, h1, h2, hk => by
    show bindC kindOf ((p, w) :: P.zip vs) m x = _
    unfold bindC
    exact bindC_get (i := i) (List.nodup_cons.mp nd).2 (by simpa using h1) (by simpa using h2) hk

/-- the names' values at the entry -/
def start (N : List Str) (vs : List V) : St := vs.map some ++ List.replicate (N.length - vs.length) none

/-- the context of a def's body, at its entry; an exception leaves the frame, then lies as CX says -/
def cxOf (CX : CXT) (P : Program) (w : World) (K : PySem.W.Frag) (mg : Str → Option Value) (base : Heap) (N : List Str) (qual : Str) (scope : Scope) (f : Addr) (cd : Value) (A : Around) (outer : List Env) (s : Shared) (H : Hp) (E : XK) : Cx where
  prog := P
  w := w
  K := K
  mg := mg
  base := base
  A := A.deeper (envOfC qual scope s.heap.objs.size f cd)
  N := N
  s₀ := s
  H₀ := H
  env := envOfC qual scope s.heap.objs.size f cd
  outer := outer
  stack := envOfC qual scope s.heap.objs.size f cd :: outer
  ex := []
  calm := true
  fn := fun _ => true
  pn := []
  xe := fun e s' => wpAny (model P w) (A.deeper (envOfC qual scope s.heap.objs.size f cd)) (leaving (envOfC qual scope s.heap.objs.size f cd) e) (fun _ s'' => CX outer H s E e s'') (fun e' s'' => CX outer H s E e' s'') s'

theorem cell_has {sc : Scope} {n : Nat} {x : Str} (h : sc.names.lookup x = some .cell) : ∃ c, (cellsFrom n sc.names []).lookup x = some c := by
  have q := PySem.W.cellsFrom_some sc.names n [] (.inl h)
  exact Option.isSome_iff_exists.mp q

theorem inv_start {CX : CXT} {P : Program} {w : World} {K : PySem.W.Frag} {mg : Str → Option Value} {base : Heap} {N ps : List Str} {qual : Str} {scope : Scope} {f : Addr} {cd : Value} {A : Around} {outer : List Env} {s s1 : Shared} {H : Hp} {E : XK} {us : List Value} {vs : List V}
    (S : FnScope N ps scope) (hd : A.handled = none) (e0 : Env0 P w K mg base A outer s H) (hl : vs.length = ps.length) (r : Vals vs us)
    (x : InCallC s s.heap.objs.size (bindL (envOfC qual scope s.heap.objs.size f cd).kindOf (ps.zip us) fun _ => none) (cellsFrom (s.heap.objs.size + 1) scope.names []) (bindC (envOfC qual scope s.heap.objs.size f cd).kindOf (ps.zip us) fun _ => none) s1) :
    Inv (cxOf CX P w K mg base N qual scope f cd A outer s H E) [] (start N vs) H s1 := by
  have hpl : ps.length ≤ N.length := by have := congrArg List.length S.pre; rw [List.length_take] at this; omega
  obtain ⟨h1, tk, rfl, hk⟩ := x.done
  have noA : ∀ b : Addr, b ∉ (cxOf CX P w K mg base N qual scope f cd A outer s H E).ex := fun b z => absurd (show b ∈ ([] : List Addr) from z) (by simp)
  refine ⟨⟨e0.mod, S.kind, rfl, rfl, Nat.le_refl _, fun y z c h1 h2 => ?_, fun y hy => ?_, fun y c _ h => ?_, fun _ => hd, Around.frames_deeper e0.frames, .inr ⟨rfl, rfl⟩, fun b z => absurd z (noA b), e0.bs, e0.bsz, fun b _ _ => noA b, fun b z => absurd z (noA b), e0.funs, e0.frf⟩,
    rfl, e0.bare, Un.kept hk, ⟨_, x.toInCall.ns, fun i y v h1 h2 h3 => ?_⟩, fun y c h => ⟨_, x.cell y c h⟩, e0.hok.fresh (Nat.le_refl _), fun y c h => ?_, fun p hp => absurd (show p ∈ ([] : List (Addr × Obj)) from hp) (by simp), e0.hok.kept hk, ?_⟩
  · exact name_of_addr x.apart (PySem.mem_of_lookup h1) (PySem.mem_of_lookup h2)
  · have hy : scope.names.lookup y = some .cell ∨ scope.names.lookup y = some .free := hy
    rcases hy with hy | hy
    · exact cell_has hy
    · exact absurd rfl (S.nofree _ (PySem.mem_of_lookup hy))
  · exact Nat.le_of_lt (x.above y c (PySem.mem_of_lookup h))
  · have hi : i < vs.length := by
      unfold start at h2
      by_cases hi : i < vs.length
      · exact hi
      · rw [List.getElem?_append_right (by simpa using hi)] at h2
        rw [List.getElem?_replicate] at h2
        split at h2 <;> cases h2
    have ha : vs[i]? = some v := by
      unfold start at h2
      rw [List.getElem?_append_left (by simpa using hi), List.getElem?_map] at h2
      cases e : vs[i]? with
      | none => rw [e] at h2; cases h2
      | some a => rw [e] at h2; cases h2; rfl
    obtain ⟨u, hu, rv⟩ := r.get ha
    have hp : ps[i]? = some y := by
      rw [← S.pre, List.getElem?_take_of_lt (by omega)]; exact h1
    have ndP : ps.Nodup := by rw [← S.pre]; exact S.nd.sublist (List.take_sublist _ _)
    refine ⟨u, rv, ?_⟩
    rcases S.par y (List.mem_of_getElem? hp) with k | k
    · exact .inl ⟨k, bindL_get ndP hp hu k⟩
    · obtain ⟨c, e⟩ := cell_has (n := s.heap.objs.size + 1) k
      refine .inr ⟨.inl k, c, e, ?_⟩
      have q := x.cell y c e
      rw [bindC_get ndP hp hu (by show scope.names.lookup y ≠ _; rw [k]; decide)] at q
      exact q
  · exact e0.hok.fresh (Nat.le_of_lt (x.above y c (PySem.mem_of_lookup h)))
  · unfold start
    show _ = N.length
    rw [List.length_append, List.length_map, List.length_replicate]
    omega

/-- THE RULE: a def (or a method) of the text, by its body. The body's reading t is chosen for each entry; it is run at the parameters' values -/
theorem fn_of {CX : CXT} {P : Program} {w : World} {K : PySem.W.Frag} {mg : Str → Option Value} {base : Heap} {k : Nat} {f : Addr} {name qual : Str} {params : Arguments} {body : List Stmt} {scope : Scope} {dV kV doc pm cdv ct oc : Value} {an od : Option Addr}
    {osl : Array (Option Value)} {N ps : List Str} {sp : Sp} (lk : K.lookup f = some ⟨oc, od, .func (PySem.W.fnOf name qual params body scope dV kV doc pm an cdv ct), osl⟩) (hcd : PySem.W.codeIn K cdv qual = true) (S : FnScope N ps scope)
    (len : ∀ vs H Q E, sp vs H Q E → vs.length = ps.length)
    (hbody : ∀ (A : Around) (outer : List Env) (s : Shared) (H : Hp) (vs : List V) (Q : VK) (E : XK), Room k (A.deeper (envOfC qual scope s.heap.objs.size f cdv)) → sp vs H Q E →
      ∃ t, PSs (cxOf CX P w K mg base N qual scope f cdv A outer s H E) body t ∧ t { nx := fun _ H' => Q .non H', rt := Q } (start N vs) H) :
    FnOk P w K mg base CX (k + 1) f (PySem.W.fnOf name qual params body scope dV kV doc pm an cdv ct) ps sp := by
  refine ⟨len, fun A outer s H args us vs Q E hr e0 hb r hsp => ?_⟩
  have hl := len _ _ _ _ hsp
  have KX : K.In s.heap := e0.mod.kin.keeps fun b o e => (e0.bs b o e).1
  have lim : s.heap.NoLimit := e0.mod.nolimit.keeps fun b o e => (e0.bs b o e).1
  have hkind : ∀ y ∈ ps.zip us, scope.names.lookup y.1 = some .local ∨ (scope.names.lookup y.1 = some .cell ∧ ((cellsFrom (s.heap.objs.size + 1) scope.names []).lookup y.1).isSome = true) := fun ⟨n, v⟩ hy => by
    rcases S.par n (List.of_mem_zip hy).1 with q | q
    · exact .inl q
    · exact .inr ⟨q, PySem.W.cellsFrom_some _ _ _ (.inl q)⟩
  refine codeAny_call_function hr.depth (KX _ _ lk) rfl S.co S.gen rfl (PySem.W.codeRec_of KX hcd) (hb _ _ _ _ ?_)
  refine wpAny_newFunctionEnv_cells S.kind hkind fun env he s1 x => ?_
  subst he
  refine ⟨lim.keeps x.toInCall.keep, codeAny_func ?_⟩
  obtain ⟨t, ht, hq⟩ := hbody A outer s H vs Q E (hr.deeper _) hsp
  have I : Inv (cxOf CX P w K mg base N qual scope f cdv A outer s H E) [] (start N vs) H s1 := inv_start S hr.hd e0 hl r x
  refine wpAny_mono (ht [] s1 (start N vs) H _ I hq) (fun fl s' hs => ?_) fun e s' hs => hs
  have fin : ∀ {σ' : St} {H' : Hp} {v : V} {u : Value}, Inv (cxOf CX P w K mg base N qual scope f cdv A outer s H E) [] σ' H' s' → RelV v u → Q v H' → CE outer P w H s Q u s' :=
    fun {σ' H' v u} J rv q => ⟨v, H', J.os, J.bare, J.base, J.hok, rv, q⟩
  cases fl with
  | ret u =>
    obtain ⟨v, σ', H', J, rv, q⟩ := hs
    exact fin J rv q
  | next =>
    obtain ⟨σ', H', J, q⟩ := hs
    exact fin (v := V.non) (u := Value.none) J rfl q
  | brk =>
    obtain ⟨_, _, _, q⟩ := hs
    exact False.elim q
  | cont =>
    obtain ⟨_, _, _, q⟩ := hs
    exact False.elim q
end L2

namespace L2
open PySem PySem.Spec PyProof.Rows
section
variable {X : Cx} {x : Str} {p pos : Pos} {e : Expr} {es : List Expr} {t : TA} {id T : String} {r : List V → Hp → VK → Prop}

def tCB (r : List V → Hp → VK → Prop) (t : TA) : TE := fun σ H Q => t σ H fun vs H1 => r vs H1 Q
/-- f(e, ..), f a built-in function -/
theorem pe_callB (hc : CallR X (.builtin id) r) (hg : Gl X x) (hm : X.mg x = none) (hv : bootBuiltins x = some (.builtin id)) (ha : PA X (e :: es) t) (hn : x ≠ "__name__" := by decide) (hdb : (x == ("__debug__" : Str)) = false := by decide)
    (he : starEach (e :: es) X.env = (false, eval e X.env) :: starEach es X.env := by rfl) (hpl : (backTo pos (starEach es X.env)).any (·.1) = false := by rfl) : PE X (.Call (.Name x p) (e :: es) [] pos) (tCB r t) := by
  intro pins s σ H Q I h
  refine wpAny_Call_Name_kw (ld_blt I hg hm hv ?_ hn hdb)
  exact PyProof.Rows.callWith_builtin1 (thn (ha pos pins s σ H _ I h) fun us s1 ⟨vs, H1, I1, r1, q1⟩ => hc pins s1 σ H1 vs us Q I1 r1 q1) he hpl
/-- T(e, ..), T a built-in type -/
theorem pe_callTy (hc : CallR X (.type T) r) (hg : Gl X x) (hm : X.mg x = none) (hv : bootBuiltins x = some (.type T)) (ha : PA X (e :: es) t) (hn : x ≠ "__name__" := by decide) (hdb : (x == ("__debug__" : Str)) = false := by decide)
    (he : starEach (e :: es) X.env = (false, eval e X.env) :: starEach es X.env := by rfl) (hpl : (backTo pos (starEach es X.env)).any (·.1) = false := by rfl) : PE X (.Call (.Name x p) (e :: es) [] pos) (tCB r t) := by
  intro pins s σ H Q I h
  refine wpAny_Call_Name_kw (ld_blt I hg hm hv ?_ hn hdb)
  exact PyProof.Rows.callWith_type1 (thn (ha pos pins s σ H _ I h) fun us s1 ⟨vs, H1, I1, r1, q1⟩ => hc pins s1 σ H1 vs us Q I1 r1 q1) he hpl
end
end L2

namespace HT
open PySem PyProof.Rows



section
open PySem.SeqAt
open PySem.AutoSeq1 (wpAny_loadPart')
open PySem.MeetsSeq PySem.MeetsSeq2 PySem.MeetsSeq3

end

section
variable {prog : Program} {w : World} {A : Around} {E : Value → Shared → Prop} {s : Shared}



/-! ### t[a:b], not the whole -/

end
end HT

namespace L2
open PySem PySem.Spec PyProof.Rows

/-! ### the parts of a slice -/
abbrev TO := St → Hp → (Option Int → Hp → Prop) → Prop


section
variable {X : Cx} {e : Expr} {te : TE} {lo hi : Option Expr} {tl th : TO} {pos p2 : Pos}




/-! ### t < u, t + u -/
end
end L2

namespace L2
open PySem PySem.Spec PyProof.Rows

/-! ### places -/
/-- the place that an index of any sign means -/
def ixN (n : Nat) (i : Int) : Option Nat := if 0 ≤ i then (if i < n then some i.toNat else none) else if -(n : Int) ≤ i then some (i + n).toNat else none
def atI {α : Type} (xs : List α) (i : Int) : Option α := (ixN xs.length i).bind fun j => xs[j]?
theorem ixN_seq {n : Nat} {i : Int} {j : Nat} (h : ixN n i = some j) : seqIndex? i n = some j ∧ j < n ∧ -(n : Int) ≤ i ∧ i < n := by
  unfold ixN at h
  by_cases h0 : 0 ≤ i
  · rw [if_pos h0] at h
    by_cases h1 : i < n
    · rw [if_pos h1] at h
      have e : i.toNat = j := Option.some.inj h
      exact ⟨by rw [seqIndex_of h0 h1, e], by omega, by omega, h1⟩
    · rw [if_neg h1] at h; cases h
  · rw [if_neg h0] at h
    by_cases h1 : -(n : Int) ≤ i
    · rw [if_pos h1] at h
      have e : (i + n).toNat = j := Option.some.inj h
      exact ⟨by rw [seqIndex_neg (by omega) h1, e], by omega, h1, by omega⟩
    · rw [if_neg h1] at h; cases h
theorem atI_get {α : Type} {xs : List α} {i : Int} {v : α} (h : atI xs i = some v) : ∃ j, seqIndex? i xs.length = some j ∧ xs[j]? = some v ∧ j < xs.length ∧ -(xs.length : Int) ≤ i ∧ i < xs.length := by
  unfold atI at h
  cases e : ixN xs.length i with
  | none => rw [e] at h; cases h
  | some j =>
    rw [e] at h
    obtain ⟨h1, h2, h3, h4⟩ := ixN_seq e
    exact ⟨j, h1, h, h2, h3, h4⟩
theorem atI_nat {α : Type} {xs : List α} {j : Nat} {v : α} (h : xs[j]? = some v) : atI xs (j : Int) = some v := by
  have hj : j < xs.length := (List.getElem?_eq_some_iff.mp h).1
  have e : ixN xs.length (j : Int) = some j := by
    unfold ixN
    rw [if_pos (by omega), if_pos (by omega)]; simp
  unfold atI; rw [e]; exact h

/-! ### what may be subscripted -/
/-- what stands as an index of a plain subscript -/
def PlainIx (b : Expr) : Prop := ∀ o i, subscripted b false o i = operate [o, i] (getItem o i)
/-- a subscript by values -/
def IxR (X : Cx) (r : R2) : Prop :=
  ∀ (value slice : Expr) (pins : List (Addr × Obj)) (s : Shared) (σ : St) (H : Hp) (x y : V) (v u : Value) (Q : VK), Inv X pins σ H s → RelV x v → RelV y u → r x y H Q →
    subscripted slice false v u = operate [v, u] (getItem v u) → wpAny (model X.prog X.w) X.A (subscriptTail value slice v u) (EP X pins σ Q) X.xe s
/-- a call of a builtin's method by values: the receiver, the arguments -/
def MtR (X : Cx) (id : String) (r : V → List V → Hp → VK → Prop) : Prop :=
  ∀ (pins : List (Addr × Obj)) (s : Shared) (σ : St) (H : Hp) (x : V) (xs : List V) (v : Value) (us : List Value) (Q : VK), Inv X pins σ H s → RelV x v → Vals xs us → r x xs H Q →
    wpAny (model X.prog X.w) X.A (call (.builtin id) (v :: us)) (EP X pins σ Q) X.xe s
section
variable {X : Cx} {a b : Expr} {ta tb : TE} {pos : Pos}
/-- a[b] -/
theorem pe_ix {r : R2} (hr : IxR X r) (ha : PE X a ta) (hb : PE X b tb) (hs : PlainIx b) : PE X (.Subscript a b pos) (tOp r ta tb) := by
  intro pins s σ H Q I h
  exact Subscript_ (binT ha hb I h fun v u s2 x y H2 I2 rx ry q => hr a b pins s2 σ H2 x y v u Q I2 rx ry q (hs _ _))

def rIxL (K : PySem.W.Frag) : R2 := fun x y H Q => ∃ p xs i v, x = .ref p ∧ y = .int i ∧ SqL K H p xs ∧ atI xs i = some v ∧ Q v H
def rIxT (K : PySem.W.Frag) : R2 := fun x y H Q => ∃ p xs i v, x = .ref p ∧ y = .int i ∧ SqT K H p xs ∧ atI xs i = some v ∧ Q v H
def rIxS : R2 := fun x y H Q => ∃ z i c, x = .str z ∧ y = .int i ∧ z.length ≤ sizeLine ∧ atI z.cps.toList i = some c ∧ Q (.str ⟨#[c]⟩) H
theorem ix_list : IxR X (rIxL X.K) := by
  intro value slice pins s σ H x y v u Q I rx ry h hs
  obtain ⟨p, xs, i, z, rfl, rfl, hq, he, q⟩ := h
  cases rx
  obtain ⟨t, rfl⟩ := ry
  obtain ⟨its, r, pl, hz⟩ := I.list hq
  obtain ⟨j, h1, h2, h3, h4, h5⟩ := atI_get he
  obtain ⟨w, ew, rw'⟩ := r.get h2
  have hl := r.length
  have hn := line63
  have fin : EP X pins σ Q w s := ⟨z, H, I, rw', q⟩
  by_cases h0 : 0 ≤ i
  · have hj : i.toNat = j := by
      rw [seqIndex_of h0 h5] at h1
      exact Option.some.inj h1
    exact item_listR pl.isList h0 (by omega) (by rw [hj]; simpa using ew) fin hs
  · have hj : (i + (its.toArray.size : Int)).toNat = j := by
      rw [seqIndex_neg (by omega) h4] at h1
      rw [List.size_toArray, ← hl]
      exact Option.some.inj h1
    exact subscriptTail_builtinR (x := w) pl.isList.typeIs slot_list_getitem.lookup
      (wpAny_getItem_list_neg (Q := fun r s' => r = w ∧ EP X pins σ Q r s') pl.isList (by omega) (by rw [List.size_toArray] <;> omega) (by omega) (by rw [hj]; simpa using ew) ⟨rfl, fin⟩) hs
theorem ix_tup : IxR X (rIxT X.K) := by
  intro value slice pins s σ H x y v u Q I rx ry h hs
  obtain ⟨p, xs, i, z, rfl, rfl, hq, he, q⟩ := h
  cases rx
  obtain ⟨t, rfl⟩ := ry
  obtain ⟨its, r, pl, hz⟩ := I.tuple hq
  obtain ⟨j, h1, h2, h3, h4, h5⟩ := atI_get he
  obtain ⟨w, ew, rw'⟩ := r.get h2
  have hl := r.length
  have hn := line63
  have fin : EP X pins σ Q w s := ⟨z, H, I, rw', q⟩
  exact subscriptTail_builtinR (x := w) pl.typeIs slot_tuple_getitem.lookup
    (getItem_tuple (j := j) (Q := fun r s' => r = w ∧ EP X pins σ Q r s') pl (by omega) (by omega) (by rw [List.size_toArray, ← hl]; exact h1) (by simpa using ew) ⟨rfl, fin⟩) hs
theorem ix_str : IxR X rIxS := by
  intro value slice pins s σ H x y v u Q I rx ry h hs
  obtain ⟨z, i, c, rfl, rfl, hz, he, q⟩ := h
  obtain ⟨t, rfl⟩ := rx
  obtain ⟨t', rfl⟩ := ry
  obtain ⟨j, h1, h2, h3, h4, h5⟩ := atI_get he
  have hl : z.cps.toList.length = z.length := by simp [Str.length]
  rw [hl] at h1 h4 h5
  have hn := line63
  exact tail_any (typeIs_str s z t) slot_str_getitem.lookup (getItem_str (c := c) (by
    have e1 : decide (i < -(2 ^ 63 : Int)) = false := decide_eq_false (by omega)
    have e2 : decide (i ≥ 2 ^ 63) = false := decide_eq_false (by omega)
    rw [e1, e2, Bool.or_false]) (by rw [h1]; simpa using h2) ⟨.str ⟨#[c]⟩, H, I.tok _, ⟨_, rfl⟩, q⟩) hs

/-! ### xs[i] = v, any sign -/
/-- the list's object behind a store -/
theorem mapSeq_set (its : List Value) (n j : Nat) (u : Value) : Obj.mapSeq (·.setIfInBounds j u) { cls := .type "list", data := .seq its.toArray n } = { cls := .type "list", data := .seq (its.set j u).toArray n } := by
  simp [Obj.mapSeq]
theorem Inv.lst {pins : List (Addr × Obj)} {σ : St} {H : Hp} {s : Shared} {p : Addr} {xs : List V} (I : Inv X pins σ H s) (h : H p = some (.lst xs)) :
    ∃ (its : List Value) (n : Nat), Vals xs its ∧ s.heap.get? p = some { cls := .type "list", data := .seq its.toArray n } ∧ xs.length ≤ sizeLine := by
  obtain ⟨z, its, n, r, e⟩ := I.hok p _ h
  exact ⟨its, n, r, e, z⟩
/-- the list at p is written by an update of its object -/
theorem Inv.lstUpd {pins : List (Addr × Obj)} {σ : St} {H : Hp} {s : Shared} {p : Addr} {xs ys : List V} {its its' : List Value} {n n' : Nat} {f : Obj → Obj} (I : Inv X pins σ H s) (h : H p = some (.lst xs))
    (ho : s.heap.get? p = some { cls := .type "list", data := .seq its.toArray n }) (hf : f { cls := .type "list", data := .seq its.toArray n } = { cls := .type "list", data := .seq its'.toArray n' }) (r : Vals ys its') (hz : ys.length ≤ sizeLine) (t : Nat) :
    Inv X pins σ (upd H p (.lst ys)) { s with heap := s.heap.update p f, toks := t } := by
  have e : (s.heap.update p f).get? p = some { cls := .type "list", data := .seq its'.toArray n' } := by
    rw [Heap.get?_update_self f ho (by rw [hf] <;> rfl), hf]
  refine I.write (x := p) (e := p) (by rw [h]; trivial) (.inl rfl) (fun b u hb q => (Heap.get?_update_other _ _ (Ne.symm hb)).trans q) ⟨_, e⟩ ?_
  exact ⟨hz, its', n', r, e⟩
def rSetL : V → V → V → Hp → (Hp → Prop) → Prop := fun o i v H Q => ∃ p xs k j, o = .ref p ∧ i = .int k ∧ H p = some (.lst xs) ∧ ixN xs.length k = some j ∧ Q (upd H p (.lst (xs.set j v)))
theorem set_list : PSet X rSetL := by
  intro pins s σ H o i v ov iv u Q I ro ri rv h
  obtain ⟨p, xs, k, j, rfl, rfl, hp, hj, q⟩ := h
  cases ro
  obtain ⟨t, rfl⟩ := ri
  obtain ⟨its, n, r, ho, hz⟩ := I.lst hp
  obtain ⟨h1, h2, h3, h4⟩ := ixN_seq hj
  have hl := r.length
  have hn := line63
  have I' : Inv X pins σ (upd H p (.lst (xs.set j v))) { s with heap := s.heap.update p (Obj.mapSeq (·.setIfInBounds j u)) } :=
    I.lstUpd hp ho (mapSeq_set its n j u) (r.set rv j) (by rw [List.length_set]; exact hz) s.toks
  by_cases h0 : 0 ≤ k
  · have hk : k.toNat = j := by
      rw [seqIndex_of h0 h4] at h1
      exact Option.some.inj h1
    exact PySem.W.ki_setAt ho h0 (by omega) (by rw [List.size_toArray, ← hl]; exact h4) (by rw [hk]; exact ⟨_, I', q⟩)
  · have hk : (k + (its.toArray.size : Int)).toNat = j := by
      rw [seqIndex_neg (by omega) h3] at h1
      rw [List.size_toArray, ← hl]
      exact Option.some.inj h1
    exact PySem.W.ki_setBack ho (by omega) (by rw [List.size_toArray, ← hl]; exact h3) (by omega) (by rw [hk]; exact ⟨_, I', q⟩)

/-! ### slices -/

/-! ### in, not in: flat items -/
def flatV : V → Bool
  | .non => true
  | .bl _ => true
  | .int _ => true
  | .str _ => true
  | _ => false
/-- == of flat values -/
def eqV : V → V → Bool
  | .non, .non => true
  | .bl a, .bl b => a == b
  | .bl a, .int b => (if a then 1 else 0) == b
  | .int a, .bl b => a == (if b then 1 else 0)
  | .int a, .int b => a == b
  | .str a, .str b => a == b
  | _, _ => false
theorem eqAt_V {A : Around} {s : Shared} {y x : V} {u v : Value} (ry : RelV y u) (rx : RelV x v) (fy : flatV y = true) (fx : flatV x = true) : SeqAt.EqAt A s u v (eqV y x) := by
  cases y with
  | non =>
    cases ry
    cases x with
    | non => cases rx; exact SeqAt.EqAt.same _
    | bl b => cases rx; exact SeqAt.EqAt.none_bool b
    | int b => obtain ⟨t, rfl⟩ := rx; exact SeqAt.EqAt.none_int b t
    | str b => obtain ⟨t, rfl⟩ := rx; exact SeqAt.EqAt.none_str b t
    | _ => exact absurd (show false = true from fx) Bool.false_ne_true
  | bl a =>
    cases ry
    cases x with
    | non => cases rx; exact SeqAt.EqAt.bool_none a
    | bl b => cases rx; exact SeqAt.EqAt.bool_bool a b
    | int b => obtain ⟨t, rfl⟩ := rx; exact SeqAt.EqAt.bool_int a b t
    | str b => obtain ⟨t, rfl⟩ := rx; exact SeqAt.EqAt.bool_str a b t
    | _ => exact absurd (show false = true from fx) Bool.false_ne_true
  | int a =>
    obtain ⟨t', rfl⟩ := ry
    cases x with
    | non => cases rx; exact SeqAt.EqAt.int_none a t'
    | bl b => cases rx; exact SeqAt.EqAt.int_bool a t' b
    | int b => obtain ⟨t, rfl⟩ := rx; exact SeqAt.EqAt.int_int a t' b t
    | str b => obtain ⟨t, rfl⟩ := rx; exact SeqAt.EqAt.int_str a t' b t
    | _ => exact absurd (show false = true from fx) Bool.false_ne_true
  | str a =>
    obtain ⟨t', rfl⟩ := ry
    cases x with
    | non => cases rx; exact SeqAt.EqAt.str_none a t'
    | bl b => cases rx; exact SeqAt.EqAt.str_bool a t' b
    | int b => obtain ⟨t, rfl⟩ := rx; exact SeqAt.EqAt.str_int a t' b t
    | str b => obtain ⟨t, rfl⟩ := rx; exact SeqAt.EqAt.str_str a t' b t
    | _ => exact absurd (show false = true from fx) Bool.false_ne_true
  | _ => exact absurd (show false = true from fy) Bool.false_ne_true
/-- the items' answers, read off the values (a value's own answer does not lean on its token) -/
def eqU (x : V) (u : Value) : Bool := match u with
  | .none => eqV .non x
  | .bool b => eqV (.bl b) x
  | .int i _ => eqV (.int i) x
  | .str z _ => eqV (.str z) x
  | _ => false
theorem eqU_of {x y : V} {u : Value} (r : RelV y u) (f : flatV y = true) : eqU x u = eqV y x := by
  cases y with
  | non => cases r; rfl
  | bl b => cases r; rfl
  | int i => obtain ⟨t, rfl⟩ := r; rfl
  | str z => obtain ⟨t, rfl⟩ := r; rfl
  | _ => exact absurd (show false = true from f) Bool.false_ne_true
theorem any_eqU {x : V} : ∀ {xs : List V} {us : List Value}, Vals xs us → xs.all flatV = true → us.any (eqU x) = xs.any fun y => eqV y x
  | _, _, .nil, _ => rfl
  | y :: xs, u :: us, .cons r t, f => by
    rw [List.all_cons, Bool.and_eq_true] at f
    rw [List.any_cons, List.any_cons, eqU_of r f.1, any_eqU t f.2]
theorem mem_eqAt {A : Around} {s : Shared} {x : V} {v : Value} (rx : RelV x v) (fx : flatV x = true) : ∀ {xs : List V} {us : List Value}, Vals xs us → xs.all flatV = true → ∀ u ∈ us, SeqAt.EqAt A s u v (eqU x u)
  | _, _, .nil, _ => fun u hu => by cases hu
  | y :: xs, u :: us, .cons r t, f => fun u' hu => by
    rw [List.all_cons, Bool.and_eq_true] at f
    rcases List.mem_cons.mp hu with rfl | hu
    · rw [eqU_of r f.1]; exact eqAt_V r rx f.1 fx
    · exact mem_eqAt rx fx t f.2 u' hu
def inV (x : V) (xs : List V) : Bool := xs.any fun y => eqV y x
/-- x in a list or tuple of flat items -/
def rIn (K : PySem.W.Frag) (neg : Bool) : R2 := fun x y H Q => ∃ p xs, y = .ref p ∧ (SqL K H p xs ∨ SqT K H p xs) ∧ flatV x = true ∧ xs.all flatV = true ∧ Q (.bl (if neg then !inV x xs else inV x xs)) H
theorem op_in_seq : OpR X (compareOp .In) (rIn X.K false) := by
  intro pins s σ H x y v u Q I rx ry h
  obtain ⟨p, xs, rfl, hq, fx, fs, q⟩ := h
  cases ry
  rcases hq with hq | hq
  · obtain ⟨its, r, pl, hz⟩ := I.list hq
    refine SeqAt.in_listAt (eqU x) pl.isList (fun w hw => mem_eqAt rx fx r fs w (by simpa using hw)) ⟨.bl _, H, I, rfl, ?_⟩
    rw [show its.toArray.any (eqU x) = its.any (eqU x) by simp, any_eqU r fs]
    exact q
  · obtain ⟨its, r, pl, hz⟩ := I.tuple hq
    refine SeqAt.in_tupleAt (eqU x) pl (fun w hw => mem_eqAt rx fx r fs w (by simpa using hw)) ⟨.bl _, H, I, rfl, ?_⟩
    rw [show its.toArray.any (eqU x) = its.any (eqU x) by simp, any_eqU r fs]
    exact q
theorem op_notIn_seq : OpR X (compareOp .NotIn) (rIn X.K true) := by
  intro pins s σ H x y v u Q I rx ry h
  obtain ⟨p, xs, rfl, hq, fx, fs, q⟩ := h
  cases ry
  rcases hq with hq | hq
  · obtain ⟨its, r, pl, hz⟩ := I.list hq
    refine SeqAt.notIn_listAt (eqU x) pl.isList (fun w hw => mem_eqAt rx fx r fs w (by simpa using hw)) ⟨.bl _, H, I, rfl, ?_⟩
    rw [show its.toArray.any (eqU x) = its.any (eqU x) by simp, any_eqU r fs]
    exact q
  · obtain ⟨its, r, pl, hz⟩ := I.tuple hq
    refine SeqAt.notIn_tupleAt (eqU x) pl (fun w hw => mem_eqAt rx fx r fs w (by simpa using hw)) ⟨.bl _, H, I, rfl, ?_⟩
    rw [show its.toArray.any (eqU x) = its.any (eqU x) by simp, any_eqU r fs]
    exact q

/-! ### len, list(x), tuple(x) of any list or tuple that is read -/
theorem call_len_seq : CallR X (.builtin "len") (fun xs H Q => ∃ p ys, xs = [.ref p] ∧ (SqL X.K H p ys ∨ SqT X.K H p ys) ∧ Q (.int ys.length) H) := by
  intro pins s σ H xs us Q I r h
  obtain ⟨p, ys, rfl, hq, q⟩ := h
  obtain ⟨u, rfl, rx⟩ := vals1 r
  cases rx
  have hn := line63
  rcases hq with hq | hq
  · obtain ⟨its, r', pl, hz⟩ := I.list hq
    have hlen := r'.length
    exact Calls.call_len_list pl.isList (by simp only [List.size_toArray] <;> omega) ⟨.int ys.length, H, I.tok _, ⟨s.toks + 1, by rw [List.size_toArray, hlen]⟩, q⟩
  · obtain ⟨its, r', pl, hz⟩ := I.tuple hq
    have hlen := r'.length
    exact len_tuple pl (by simp only [List.size_toArray] <;> omega) ⟨.int ys.length, H, I.tok _, ⟨s.toks + 1, by rw [List.size_toArray, hlen]⟩, q⟩
theorem call_len_str : CallR X (.builtin "len") (fun xs H Q => ∃ z, xs = [.str z] ∧ z.length ≤ sizeLine ∧ Q (.int z.length) H) := by
  intro pins s σ H xs us Q I r h
  obtain ⟨z, rfl, hz, q⟩ := h
  obtain ⟨u, rfl, t, rfl⟩ := vals1 r
  have hn := line63
  exact len_str (by omega) ⟨.int z.length, H, I.tok _, ⟨_, rfl⟩, q⟩
theorem call_list_of : CallR X (.type "list") (fun xs H Q => ∃ p ys, xs = [.ref p] ∧ (SqL X.K H p ys ∨ SqT X.K H p ys) ∧ ∀ l, H l = none → Q (.ref l) (upd H l (.lst ys))) := by
  intro pins s σ H xs us Q I r h
  obtain ⟨p, ys, rfl, hq, q⟩ := h
  obtain ⟨u, rfl, rx⟩ := vals1 r
  cases rx
  have fin : ∀ (its : List Value), Vals ys its → ys.length ≤ sizeLine → ∀ (h' : Heap) (c' : Nat), (∀ b o', s.heap.get? b = some o' → h'.get? b = some o') →
      h'.get? s.heap.objs.size = some { cls := .type "list", dict := none, data := .seq its.toArray c', slots := #[] } → EP X pins σ Q (.ref s.heap.objs.size) { s with heap := h' } := fun its r' hz h' c' kp e =>
    ⟨.ref s.heap.objs.size, _, I.laid (t' := s.toks) kp (Nat.le_refl _) (show ObjOk X.prog X.w _ h' _ (.lst ys) from ⟨hz, its, c', r', e⟩), rfl, q _ (I.hok.fresh (Nat.le_refl _))⟩
  rcases hq with hq | hq
  · obtain ⟨its, r', pl, hz⟩ := I.list hq
    have hlen := r'.length
    obtain ⟨o, ho, hc, n, hd⟩ := pl.isList
    exact call_list_seq p (.inl rfl) ho hc hd (fun h' c' kp e => fin its r' hz h' c' kp e) (by simp only [List.size_toArray] <;> omega)
  · obtain ⟨its, r', pl, hz⟩ := I.tuple hq
    have hlen := r'.length
    obtain ⟨o, ho, hc, n, hd⟩ := pl
    exact call_list_seq p (.inr rfl) ho hc hd (fun h' c' kp e => fin its r' hz h' c' kp e) (by simp only [List.size_toArray] <;> omega)
theorem call_tuple_of : CallR X (.type "tuple") (fun xs H Q => ∃ p ys, xs = [.ref p] ∧ ((SqL X.K H p ys ∧ ∀ l, H l = none → Q (.ref l) (upd H l (.tup ys))) ∨ (SqT X.K H p ys ∧ Q (.ref p) H))) := by
  intro pins s σ H xs us Q I r h
  obtain ⟨p, ys, rfl, h⟩ := h
  obtain ⟨u, rfl, rx⟩ := vals1 r
  cases rx
  rcases h with ⟨hq, q⟩ | ⟨hq, q⟩
  · obtain ⟨its, r', pl, hz⟩ := I.list hq
    have hlen := r'.length
    refine call_tuple_list pl.isList (fun h' kp => ?_) (by simp only [List.size_toArray] <;> omega)
    have I1 : Inv X pins σ H { s with heap := h' } := I.kept (t' := s.toks) kp
    have I2 : Inv X pins σ (upd H h'.objs.size (.tup ys)) { s with heap := h'.push { cls := .type "tuple", data := .seq its.toArray } } :=
      I1.laid (t' := s.toks) (fun b o e => Heap.get?_push_of_some _ e) (Nat.le_refl _) (show ObjOk X.prog X.w _ _ _ (.tup ys) from ⟨hz, its, r', IsTup.new _ _⟩)
    exact ⟨.ref h'.objs.size, _, I2, rfl, q _ (I1.hok.fresh (Nat.le_refl _))⟩
  · obtain ⟨its, r', pl, hz⟩ := I.tuple hq
    exact call_tuple_same pl ⟨.ref p, H, I, rfl, q⟩

/-! ### the call of a builtin's method: o.m(..) -/
/-- the value is of that builtin type -/
def tyV (K : PySem.W.Frag) (T : String) (x : V) (H : Hp) : Prop := match x with
  | .str _ => T = "str"
  | .int _ => T = "int"
  | .ref p => (T = "list" ∧ ∃ xs, SqL K H p xs) ∨ (T = "tuple" ∧ ∃ o, K.lookup p = some o ∧ o.cls = .type "tuple" ∧ o.dict = none) ∨
      (T = "dict" ∧ ((∃ kvs, H p = some (.dK kvs)) ∨ ∃ kvs, H p = some (.dT kvs))) ∨ (T = "set" ∧ ∃ S n, H p = some (.set S n))
  | _ => False
theorem tyV_is {pins : List (Addr × Obj)} {σ : St} {H : Hp} {s : Shared} {T : String} {x : V} {v : Value} (I : Inv X pins σ H s) (r : RelV x v) (ty : tyV X.K T x H) :
    s.TypeIs v T ∧ ∀ a, v = .ref a → ∃ ob, s.heap.get? a = some ob ∧ ob.dict = none := by
  cases x with
  | str z =>
    obtain ⟨t, rfl⟩ := r
    cases (show T = "str" from ty)
    exact ⟨typeIs_str s z t, fun _ e => nomatch e⟩
  | int i =>
    obtain ⟨t, rfl⟩ := r
    cases (show T = "int" from ty)
    exact ⟨typeIs_int s i t, fun _ e => nomatch e⟩
  | ref p =>
    cases r
    rcases ty with ⟨rfl, xs, hq⟩ | ⟨rfl, o, hk, hc, hd⟩ | ⟨rfl, hk⟩ | ⟨rfl, S, n, hk⟩
    · obtain ⟨its, _, pl, _⟩ := I.list hq
      refine ⟨pl.isList.typeIs, fun a e => ?_⟩
      cases e
      obtain ⟨o, n, e, c, hd, _⟩ := pl
      exact ⟨o, e, hd⟩
    · refine ⟨⟨o, I.kIn p o hk, hc⟩, fun a e => ?_⟩
      cases e
      exact ⟨o, I.kIn _ o hk, hd⟩
    · have z : ∃ o, s.heap.get? p = some o ∧ o.ExactDict := by
        rcases hk with ⟨kvs, hk⟩ | ⟨kvs, hk⟩
        · obtain ⟨_, _, _, _, o, _, _, e, ex, _⟩ := I.hok p _ hk
          exact ⟨o, e, ex⟩
        · obtain ⟨_, _, _, _, o, _, _, e, ex, _⟩ := I.hok p _ hk
          exact ⟨o, e, ex⟩
      obtain ⟨o, e, ex⟩ := z
      refine ⟨⟨o, e, ex.1⟩, fun a e2 => ?_⟩
      cases e2
      exact ⟨o, e, ex.2.1⟩
    · obtain ⟨o, _, _, _, e, ex, _⟩ := I.hok p _ hk
      refine ⟨⟨o, e, ex.1⟩, fun a e2 => ?_⟩
      cases e2
      exact ⟨o, e, ex.2.1⟩
  | _ => exact False.elim ty
def tBM0 (K : PySem.W.Frag) (T : String) (r : V → List V → Hp → VK → Prop) (to : TE) : TE := fun σ H Q => to σ H fun x H1 => tyV K T x H1 ∧ r x [] H1 Q
def tBM (K : PySem.W.Frag) (T : String) (r : V → List V → Hp → VK → Prop) (to : TE) (t : TA) : TE := fun σ H Q => to σ H fun x H1 => tyV K T x H1 ∧ t σ H1 fun xs H2 => r x xs H2 Q
variable {o e : Expr} {es : List Expr} {to : TE} {t : TA} {name : Str} {apos cpos : Pos} {T id : String} {r : V → List V → Hp → VK → Prop}
theorem pe_bm0 (pa : PlainAttrs T) (slot : Slot T name id) (hty : typeOf (.builtin id) = pure (.type "method_descriptor")) (hm : MtR X id r) (ho : PE X o to)
    (hbase : attributeBase o name X.env (eval o X.env) = eval o X.env := by rfl) (hline : (apos.endLine == cpos.line) = true := by rfl) : PE X (.Call (.Attribute o name apos) [] [] cpos) (tBM0 X.K T r to) := by
  intro pins s σ H Q I h
  refine wpAny_Call_method0_late hbase hline (thn (ho pins s σ H _ I h) fun v s1 ⟨x, H1, I1, r1, ty, q1⟩ => ?_)
  obtain ⟨h1, h2⟩ := tyV_is I1 r1 ty
  exact ⟨T, id, pa, slot, hty, h1, h2, Calls.callWith_builtin rfl (PySem.evalArgs_none (hm pins s1 σ H1 x [] v [] Q I1 r1 .nil q1))⟩
theorem pe_bm (pa : PlainAttrs T) (slot : Slot T name id) (hty : typeOf (.builtin id) = pure (.type "method_descriptor")) (hm : MtR X id r) (ho : PE X o to) (ha : PA X (e :: es) t)
    (hbase : attributeBase o name X.env (eval o X.env) = eval o X.env := by rfl)
    (hfew : ((backTo cpos (starEach (e :: es) X.env)).all (fun x => !x.1) && (backToKw cpos (keywordEach [] X.env)).all (fun x => x.1.isSome)
      && decide ((e :: es).length + ([] : List Keyword).length + (if ([] : List Keyword).isEmpty then 0 else 1) < 30)) = true := by rfl)
    (hline : (apos.endLine == cpos.line) = true := by rfl) (hs : starEach (e :: es) X.env = (false, eval e X.env) :: starEach es X.env := by rfl) (hplain : (backTo cpos (starEach es X.env)).any (·.1) = false := by rfl) :
    PE X (.Call (.Attribute o name apos) (e :: es) [] cpos) (tBM X.K T r to t) := by
  intro pins s σ H Q I h
  refine wpAny_Call_method_late hbase hfew hline rfl (thn (ho pins s σ H _ I h) fun v s1 ⟨x, H1, I1, r1, ty, q1⟩ => ?_)
  obtain ⟨h1, h2⟩ := tyV_is I1 r1 ty
  refine ⟨T, id, pa, slot, hty, h1, h2, ?_⟩
  have hA := ha cpos pins s1 σ H1 _ I1 q1
  rw [hs] at hA ⊢
  refine Calls.callWith_builtin (by show (false || (backTo cpos (starEach es X.env)).any (·.1)) = false; rw [hplain] <;> rfl) (Calls.evalArgs_plain ?_)
  exact thn hA fun us s2 ⟨vs, H2, I2, r2, q2⟩ => hm pins s2 σ H2 x vs v us Q I2 r1 r2 q2
/- xs.append(e), list.index on a module's tuple .. are MtR facts of 06m -/
end
end L2

namespace L2
open PySem PySem.Spec PyProof.Rows

def MtM (X : Cx) (id : String) (r : V → List V → Hp → VK → Prop) : Prop :=
  ∀ (pins : List (Addr × Obj)) (s : Shared) (σ : St) (H : Hp) (x : V) (xs : List V) (v : Value) (us : List Value) (Q : VK), Inv X pins σ H s → RelV x v → Vals xs us → r x xs H Q →
    wpAny (model X.prog X.w) X.A (call (.builtin id) (v :: us)) (EP X pins σ Q) X.xe s

/-! ### lists of values -/
theorem Vals.one : ∀ {x : V} {us : List Value}, Vals [x] us → ∃ u, us = [u] ∧ RelV x u
  | _, _, .cons r .nil => ⟨_, rfl, r⟩
theorem Vals.zero : ∀ {us : List Value}, Vals [] us → us = []
  | _, .nil => rfl
theorem Vals.dropLast {xs : List V} {us : List Value} (h : Vals xs us) : Vals xs.dropLast us.dropLast := by
  induction h with
  | nil => exact .nil
  | cons r t ih =>
    cases t with
    | nil => exact .nil
    | cons q t' => exact .cons r ih
theorem erase_last {α : Type} (l : List α) : l.eraseIdx (l.length - 1) = l.dropLast := by
  induction l with
  | nil => rfl
  | cons a r ih =>
    cases r with
    | nil => rfl
    | cons b r =>
      have e : (a :: b :: r).length - 1 = ((b :: r).length - 1) + 1 := by
        have h1 : (a :: b :: r).length = r.length + 2 := rfl
        have h2 : (b :: r).length = r.length + 1 := rfl
        omega
      rw [e, List.eraseIdx_cons_succ, ih]
      all_goals rfl

section
variable {X : Cx} {pins : List (Addr × Obj)} {σ : St} {H : Hp} {s : Shared} {l b : Addr} {xs ys zs : List V}

/-! ### the two steps: a tracked list is rewritten, a new list is laid -/
theorem Inv.lset {its its' : List Value} {n : Nat} {f : Array Value → Array Value} {t' : Nat} (I : Inv X pins σ H s) (hH : H l = some (.lst xs))
    (e : s.heap.get? l = some { cls := .type "list", data := .seq its.toArray n }) (hf : f its.toArray = its'.toArray) (hv : Vals ys its') (hz : ys.length ≤ sizeLine) :
    Inv X pins σ (upd H l (.lst ys)) { s with heap := s.heap.update l (Obj.mapSeq f), toks := t' } := by
  have q := PySem.IsL.update e f
  rw [hf] at q
  refine I.write (x := l) (e := l) (by rw [hH]; exact trivial) (.inl rfl) (fun b' u hb hu => (Heap.get?_update_other s.heap (Obj.mapSeq f) (Ne.symm hb)).trans hu) ⟨_, q⟩ ?_
  exact ⟨hz, its', _, hv, q⟩
theorem Inv.fresh (I : Inv X pins σ H s) : H s.heap.objs.size = none := I.hok.fresh (Nat.le_refl _)
theorem Inv.lstM (I : Inv X pins σ H s) (hH : H l = some (.lst xs)) : xs.length ≤ sizeLine ∧ ∃ (its : List Value) (n : Nat), Vals xs its ∧ xs.length = its.length ∧ s.heap.get? l = some { cls := .type "list", data := .seq its.toArray n } := by
  obtain ⟨z, its, n, r, e⟩ := I.hok l _ hH
  exact ⟨z, its, n, r, r.length, e⟩

end

section
variable {X : Cx}

/-! ### methods -/
def rAppend : V → List V → Hp → VK → Prop := fun x vs H Q => ∃ l xs y, x = .ref l ∧ vs = [y] ∧ H l = some (.lst xs) ∧ xs.length < sizeLine ∧ Q .non (upd H l (.lst (xs ++ [y])))
theorem mt_append : MtM X "list.append" rAppend := by
  intro pins s σ H x vs v us Q I rx rv h
  obtain ⟨l, xs, y, rfl, rfl, hH, hz, q⟩ := h
  cases rx
  obtain ⟨u, rfl, ru⟩ := rv.one
  obtain ⟨z, its, n, r, hl, e⟩ := I.lstM hH
  refine call_meets F.slot_list_append ⟨_, e, rfl⟩ F.entry_list_append (F.args_list_append_2 _ _) (PySem.list_append l its.toArray n u (by rw [List.size_toArray]; omega)) ⟨e, ?_⟩
  refine ⟨.non, _, I.lset (its' := its ++ [u]) hH e (by simp) (r.append (.cons ru .nil)) ?_, rfl, q⟩
  rw [List.length_append, List.length_singleton]
  omega


def rPop : V → List V → Hp → VK → Prop := fun x vs H Q => ∃ l xs y, x = .ref l ∧ vs = [] ∧ H l = some (.lst xs) ∧ xs[xs.length - 1]? = some y ∧ Q y (upd H l (.lst xs.dropLast))
theorem mt_pop : MtM X "list.pop" rPop := by
  intro pins s σ H x vs v us Q I rx rv h
  obtain ⟨l, xs, y, rfl, rfl, hH, hy, q⟩ := h
  cases rx
  have hus := rv.zero
  subst hus
  obtain ⟨z, its, n, r, hl, e⟩ := I.lstM hH
  obtain ⟨u, hu, ru⟩ := r.get hy
  have hy' : its.toArray[its.toArray.size - 1]? = some u := by
    show its.toArray[its.length - 1]? = some u
    rw [← Array.getElem?_toList, ← hl]
    exact hu
  refine call_meets F.slot_list_pop ⟨_, e, rfl⟩ F.entry_list_pop (F.args_list_pop_1 _) (MeetsSeq.list_pop_last l its.toArray n u hy' (by rw [List.size_toArray]; omega)) ⟨e, ?_⟩
  refine ⟨y, _, I.lset (its' := its.dropLast) hH e ?_ r.dropLast ?_, ru, q⟩
  · show its.toArray.eraseIdxIfInBounds (its.toArray.size - 1) = its.dropLast.toArray
    rw [List.size_toArray, List.eraseIdxIfInBounds_toArray, erase_last]
  · rw [List.length_dropLast]
    omega




/-! ### list + list, list += list, list * int -/

/-! ### del xs[i] -/
end

/-! ### xs[a:b] = ys -/
section
variable {prog : Program} {w : World} {A : Around} {E : Value → Shared → Prop} {s : Shared}
set_option maxRecDepth 100000 in
end

section
variable {X : Cx}
end
end L2

namespace Att
open PySem PySem.W PySem.Calls PyProof.Rows

/-! ### the script -/
theorem ints_of_wellAll {P : Params} {h : Heap} : ∀ (ns : List Int) (vs : List Value), WellAll P h vs (ns.map WData.int) → IntsAre vs ns := by
  intro ns
  induction ns with
  | nil =>
    intro vs w
    rw [List.map_nil] at w
    cases w
    exact .nil
  | cons n ns ih =>
    intro vs w
    rw [List.map_cons] at w
    cases w with
    | cons a b =>
      cases a
      exact .cons _ _ (ih _ b)

theorem script_of {l : OpenLaw} {n : Nat} (hn : l.most = some n) {P : Params} {h : Heap} {args : List WData} {vals : List Value}
    (hpre : l.row.toRowW.claim.pre args = true) (hwl : WellAll P h vals args) :
    ∃ a vs ns, vals = [Value.ref a] ∧ args = [WData.list (ns.map WData.int)] ∧ h.get? a = some { cls := .type "list", data := .seq vs.toArray } ∧ IntsAre vs ns ∧ ns.length ≤ n := by
  have hsh : WShape.hasAll [] args [.list .int] = true := (pre_splitW hpre).1
  have hc : l.pre.holds [] { args := args } = true := (pre_splitW hpre).2
  obtain ⟨d, r, rfl, h1, h2⟩ := hasAllW_cons hsh
  obtain rfl := hasAllW_nil h2
  obtain ⟨xs, rfl, h3⟩ := hasW_list h1
  obtain ⟨ns, rfl⟩ := items_int h3
  have hlen : ns.length ≤ n := by
    unfold OpenLaw.pre at hc
    have h4 : (WTm.not (.lt (.lit (.int (n : Int))) (.len (.arg 0)))).holds [] { args := [.list (ns.map .int)] } = true := by
      have h4 := (holds_andW hc).1
      rw [hn] at h4
      exact h4
    have h5 := condW_of h4 (w_not (w_lt w_lit (w_len_list (w_arg rfl))))
    rw [List.length_map] at h5
    refine Nat.le_of_not_lt fun q => ?_
    have q' : (n : Int) < ((ns.length : Nat) : Int) := by omega
    first
      | (rw [decide_eq_true q'] at h5; exact absurd h5 (by decide))
      | (simp at h5; omega)
  cases hwl with
  | cons w1 w2 =>
    cases w2
    cases w1 with
    | list ho hall => exact ⟨_, _, ns, rfl, rfl, ho, ints_of_wellAll ns _ hall, hlen⟩

theorem post_true (l : OpenLaw) (args : List WData) : l.row.toRowW.claim.post args (.bool true) args = true :=
  postW_of (r := l.row.toRowW) (X := (true == true))
    (show WShape.has [] (.bool true) .bool = true by first | rfl | decide | simp [WShape.has, WShape.arms, WShape.armsAll])
    (show (WTm.eq .res (.lit (.bool true))).value [] { args := args, res := some (.bool true), after := args } = some (.bool (true == true)) from w_eq_bool (w_res rfl) w_lit) rfl

/-! ### the attachment: holds_open's last premise (the goal 'hc' behind k_head) from a wpAny of the law's body -/

/-- the same from a codeAny of the CALL (for a layer whose function contracts speak of calls) -/
theorem attach_call {l : OpenLaw} {n : Nat} {q : Program} {loose : List Str} {XP : (Str → Option Value) → Heap → Prop} {YP : World → Heap → Prop} {d : DefRec}
    (hn : l.most = some n) (hdf : d.params.defaults = [])
    (call : ∀ (w : World) (s₀ s₁ : Shared) (mg mb : Str → Option Value) (fa : Addr) (o : Obj) (pm cd doc : Value) (a : Addr) (vs : List Value) (ns : List Int),
      Ground q loose [] XP w s₀ mg mb s₁.heap → YP w s₁.heap →
      s₁.heap.get? fa = some o → o.data = .func (docDef d.name d.params d.body d.scope pm cd doc) → s₁.heap.CodeRec cd d.name → mg d.name = some (.ref fa) →
      s₁.heap.get? a = some { cls := .type "list", data := .seq vs.toArray } → IntsAre vs ns → ns.length ≤ n → s₁.gens = #[] →
      codeAny (model l.prog w) callerA (.call (.ref fa) ⟨[.ref a], []⟩) (fun r s' => r = .ok (.ret (.bool true)) ∧ OldK s₁.heap s'.heap ∧ s'.os = s₁.os ∧ AllBare s'.gens) s₁) :
    WalkO q loose XP YP l.row.toRowW d [] (fun f vs => PySem.call f vs) := by
  intro w s₀ s₁ mg mb G Y fa o pm cd doc dV kV ho hd hcd hD hmg hg args vals as hpre hlay hrd hwl hlo
  obtain rfl : dV = .none := Dflts.none hD hdf
  obtain rfl : kV = .none := Dflts.noKw hD
  obtain ⟨a, vs, ns, rfl, rfl, hobj, hints, hlen⟩ := script_of hn hpre hwl
  refine enter_call (codeAny_mono (call w s₀ s₁ mg mb fa o pm cd doc a vs ns G Y ho (fd_plain hd) hcd hmg hobj hints hlen hg) fun r s' hq => ?_)
  obtain ⟨rfl, h2, h3, h4⟩ := hq
  exact ⟨.inl ⟨.bool true, .bool true, [], rfl, fun _ => rfl, .bool true, post_true l _, fun _ => ⟨List.Pairwise.nil, fun _ hm => (nomatch hm)⟩⟩, h2, h3, h4⟩


/-! ### rules over ANY heap (no ledger) from facts about the written part K: the library's own take a ledger (News) for what they write -/
section
variable {prog : Program} {w : World} {A : Around} {E : Value → Shared → Prop} {s : Shared} {K : Frag}





/-! the whole heap as the ledger: makes every rule that writes through a ledger a rule over any heap -/
def ledger (h : Heap) (L d : Addr) : List (Addr × Obj) := (List.range h.objs.size).filterMap fun a => if a = L ∨ a = d then none else (h.get? a).map fun o => (a, o)

end
end Att

namespace L2
open PySem PySem.Spec PyProof.Rows

theorem vals_ints : ∀ {vs : List Value} {ns : List Int}, IntsAre vs ns → Vals (ns.map V.int) vs
  | _, _, .nil => .nil
  | _, _, .cons n t h => .cons ⟨t, rfl⟩ (vals_ints h)

/-- nothing is tracked but the script, known to the object (or it is an object of the module) -/
def Only (H : Hp) : Prop := ∀ b, H b = none ∨ ∃ o xs, H b = some (.frz o (.lst xs))

/-- THE HEAD: the law's promise, at the heap behind the top. F, the promise of the law's def, may use that base is part of the heap (so K.In base, base.Ns mainGlobals mg stand in Mod) -/
theorem law_call {P : Program} {w : World} {K : PySem.W.Frag} {mg mb : Str → Option Value} {CX : CXT} {k : Nat} {fa a : Addr} {fd : FuncData} {x : Str} {sp : Sp} {s₁ : Shared} {vs : List Value} {ns : List Int}
    (KX : K.In s₁.heap) (hns : s₁.heap.Ns mainGlobals mg) (hb : s₁.heap.Ns builtinsNs mb) (hbb : ∀ x : Str, x ≠ "__name__" → mb x = bootBuiltins x) (hlim : s₁.heap.NoLimit) (hg : s₁.gens = #[])
    (ha : s₁.heap.get? a = some { cls := .type "list", data := .seq vs.toArray }) (hi : IntsAre vs ns) (hl : ns.length ≤ sizeLine) (hr : Room k callerA)
    (F : ∀ base : Heap, K.In base → base.Ns mainGlobals mg → FnOk P w K mg base CX k fa fd [x] sp) (hbind : ∀ (s : Shared) (u : Value), BindsTo s fd ⟨[u], []⟩ [(x, u)])
    (hsp : ∀ H : Hp, Only H → SqL K H a (ns.map V.int) → sp [.ref a] H (fun v _ => v = .bl true) fun _ _ _ => False)
    (hCX : ∀ H e s', CX [] H s₁ (fun _ _ _ => False) e s' → False) :
    codeAny (model P w) callerA (.call (.ref fa) ⟨[.ref a], []⟩) (fun r s' => r = .ok (.ret (.bool true)) ∧ OldK s₁.heap s'.heap ∧ s'.os = s₁.os ∧ AllBare s'.gens) s₁ := by
  have rv := vals_ints hi
  have lenV := hi.length
  -- from an abstract heap in which nothing but the script may be tracked
  have core : ∀ H : Hp, Only H → SqL K H a (ns.map V.int) → HOk P w H s₁.heap → (∀ b, H b ≠ none → b = a) → (H a ≠ none → K.lookup a = none) →
      codeAny (model P w) callerA (.call (.ref fa) ⟨[.ref a], []⟩) (fun r s' => r = .ok (.ret (.bool true)) ∧ OldK s₁.heap s'.heap ∧ s'.os = s₁.os ∧ AllBare s'.gens) s₁ := by
    intro H hO hS hok hA hK
    have base_of : ∀ {b : Addr} {o : Obj}, s₁.heap.get? b = some o → H b = none → (hidT s₁.heap H).get? b = some o := fun e n => hidT_get e n
    have noA : ∀ {b : Addr} {o : Obj} {es : Array DictEntry} {ep : Nat}, s₁.heap.get? b = some o → o.data = .dict es ep → H b = none := fun {b o es ep} e d => by
      cases q : H b with
      | none => rfl
      | some u =>
        have e' : b = a := hA b (by rw [q]; simp)
        subst e'
        rw [ha] at e; cases e
        have d' : Data.seq vs.toArray _ = Data.dict es ep := d
        cases d'
    have nsK : ∀ {b : Addr} {m : Str → Option Value}, s₁.heap.Ns b m → (hidT s₁.heap H).Ns b m := fun {b m} ⟨o, es, ep, e, d, r⟩ => ⟨o, es, ep, base_of e (noA e d), d, r⟩
    have hKb : K.In (hidT s₁.heap H) := fun b o e => base_of (KX b o e) (by
      cases q : H b with
      | none => rfl
      | some u =>
        have e' : b = a := hA b (by rw [q]; simp)
        subst e'
        rw [hK (by rw [q]; simp)] at e; cases e)
    have hM : Mod K mg (hidT s₁.heap H) := ⟨hKb, nsK hns, ⟨mb, nsK hb, hbb⟩, let ⟨mc, h1, h2⟩ := hlim; ⟨mc, nsK h1, h2⟩⟩
    have e0 : Env0 P w K mg (hidT s₁.heap H) callerA [] s₁ H := ⟨rfl, hM, fun b o e => of_hidT e, Nat.le_of_eq (hidT_size _ _), trivial, fun b hb => absurd (show b ∈ ([] : List Addr) from hb) (by simp), hok, .of_eq hg⟩
    refine codeAny_mono ((F _ hKb (nsK hns)).run callerA [] s₁ H ⟨[.ref a], []⟩ [.ref a] [.ref a] _ _ hr e0 (hbind s₁ (.ref a)) (.cons rfl .nil) (hsp H hO hS)) fun r s' h => ?_
    cases r with
    | error e => exact (hCX H e s' h).elim
    | ok fl =>
      cases fl with
      | next => exact False.elim h
      | brk => exact False.elim h
      | cont => exact False.elim h
      | ret u =>
        obtain ⟨v, H', os, bare, un, hok', r', q⟩ := h
        have q' : v = .bl true := q
        subst q'
        obtain rfl : u = Value.bool true := r'
        refine ⟨rfl, OldK.of_keep fun b o e => ?_, os, bare⟩
        cases q : H b with
        | none => exact un.keep b o e q (by intro z; exact absurd (show b ∈ ([] : List Addr) from z) (by simp)) (by simp)
        | some u =>
          rcases hO b with z | ⟨ob, xs, z⟩
          · rw [q] at z; cases z
          · have z2 := un.frzs b ob _ z
            obtain ⟨e1, _⟩ := hok b _ z
            obtain ⟨e2, _⟩ := hok' b _ z2
            rw [e] at e1; cases e1
            exact e2
  cases hk : K.lookup a with
  | some o =>
    -- the script is one of the module's own objects
    have e := KX a o hk
    rw [ha] at e
    cases e
    refine core (fun _ => none) (fun _ => .inl rfl) (.inr ⟨_, vs.toArray, _, hk, rfl, rfl, rfl, by rw [List.size_toArray, lenV]; exact hl, by simpa using rv⟩) (fun b u z => by have z' : (none : Option HO) = some u := z; cases z') (fun b z => absurd rfl z) fun z => absurd rfl z
  | none =>
    refine core (fun b => if b = a then some (.frz { cls := .type "list", data := .seq vs.toArray } (.lst (ns.map V.int))) else none) (fun b => ?_) (.inl (.inr ⟨{ cls := .type "list", data := .seq vs.toArray }, if_pos rfl⟩)) (fun b u z => ?_) (fun b z => ?_) fun _ => hk
    · by_cases hb : b = a
      · exact .inr ⟨_, _, if_pos hb⟩
      · exact .inl (if_neg hb)
    · by_cases hb : b = a
      · have z' := (if_pos hb).symm.trans z
        cases z'
        subst hb
        exact ⟨ha, by rw [List.length_map]; exact hl, vs, _, rv, ha⟩
      · have z' := (if_neg hb).symm.trans z
        cases z'
    · by_cases hb : b = a
      · exact hb
      · exact absurd (if_neg hb) z
end L2

namespace L2
open PySem PySem.Spec PyProof.Rows

abbrev KOf {K : PySem.W.Frag} {h : Heap} (_ : K.In h) : PySem.W.Frag := K

/-- the goal that k_head leaves (case hc), from the law's promise. F gives the function object fd (K's own) once, then the promise over every base -/
theorem walk_of {l : PySem.W.OpenLaw} {n k : Nat} {q : Program} {loose : List Str} {XP : (Str → Option Value) → Heap → Prop} {YP : World → Heap → Prop} {d : DefRec} {K : Params → PySem.W.Frag} {CX : World → CXT} {sp : World → Sp} {x : Str}
    (hn : l.most = some n) (hn2 : n ≤ sizeLine) (hdf : d.params.defaults = []) (hr : Room k callerA)
    (hY : ∀ (w : World) (h : Heap), YP w h → (K w.params).In h)
    (F : ∀ (w : World) (mg : Str → Option Value) (fa : Addr) (h : Heap), (K w.params).In h → h.Ns mainGlobals mg → mg d.name = some (.ref fa) →
      ∃ fd : FuncData, (∀ (s : Shared) (u : Value), BindsTo s fd ⟨[u], []⟩ [(x, u)]) ∧
        ∀ base : Heap, (K w.params).In base → base.Ns mainGlobals mg → FnOk l.prog w (K w.params) mg base (CX w) k fa fd [x] (sp w))
    (hsp : ∀ (w : World) (H : Hp) (a : Addr) (ns : List Int), ns.length ≤ n → Only H → SqL (K w.params) H a (ns.map V.int) → sp w [.ref a] H (fun v _ => v = .bl true) fun _ _ _ => False)
    (hCX : ∀ (w : World) (H : Hp) (s : Shared) (e : Value) (s' : Shared), CX w [] H s (fun _ _ _ => False) e s' → False) :
    PySem.W.WalkO q loose XP YP l.row.toRowW d [] (fun f vs => PySem.call f vs) := by
  refine Att.attach_call hn hdf fun w s₀ s₁ mg mb fa o pm cd doc a vs ns G Y ho hd hcd hmg hobj hints hlen hg => ?_
  have KX := hY w _ Y
  obtain ⟨fd, hb, hF⟩ := F w mg fa _ KX G.T.g hmg
  exact law_call KX G.T.g G.T.b G.T.builtins G.T.nolimit hg hobj hints (Nat.le_trans hlen hn2) hr hF hb (fun H hO hS => hsp w H a ns hlen hO hS) fun H e s' => hCX w H s₁ e s'
end L2

/- THE LAST THEOREM (shape; LID, My.* are yours):
   My.Adr: a structure of the addresses that your layer names (classes, functions); My.Txt K t: a structure (Prop) of the equations over K;
   My.txt_mk : {K} {implicit addresses ..} (e1 : nsIn K mainGlobals "law" = some (some (.ref f))) (e2 : K.lookup f = some ⟨oc, od, .func (fnOf "law" "law" params body scope dV kV doc pm an cdv ct), sl⟩) (e3 : codeIn K cdv "law" = true) .. : ∃ t, My.Txt K t

set_option maxRecDepth 100000 in
set_option maxHeartbeats 0 in
theorem PySem.Challenge.cw_LID_holds : PySem.Challenge.rw_LID.Holds := by
  w_on; o_law; k_head; (case hw => w_witness2)
  k_fill
  refine L2.walk_of (l := PySem.Challenge.rw_LID) (n := 63) (k := 40) (x := "script") (CX := fun w => ..) (sp := fun _ => My.sp_law) rfl (by decide) rfl ⟨rfl, by decide, by decide⟩ (fun w h Y => PySem.W.kIn_of Y) ?F ?S ?C
  case F =>
    intro w mg fa h KX G hmg
    have T : ∃ t, My.Txt (L2.KOf KX) t := by
      dsimp only [L2.KOf]                          -- K must stand as «<heap const> w.params» for k_is
      refine' My.txt_mk ?e1 ?e2 ?e3 ..
      (case e1 => PySem.W.k_is)                    -- in the order: a name -> its address -> its object -> its parts
      (case e2 => PySem.W.k_is)
      ..
    obtain ⟨t, T⟩ := T
    have e0 := hmg.symm.trans (PySem.W.mg_of KX G T.law)
    cases e0                                       -- fa is the law's own address
    exact ⟨_, fun s u => .of_eq rfl, fun base kb nb => My.law_fn T kb nb⟩     -- if «.of_eq rfl» comes too early: refine' ⟨_, ?b, fun base kb nb => My.law_fn T kb nb⟩; exact fun s u => .of_eq rfl
  case S => exact fun w H a ns hl hO hS => ..
  case C => exact ..
(the tactic k_is has no namespace: write k_is) -/

/-! SHORT WORDS over the layer: a def of the text, its body, what a loop and a test want. -/
namespace L2
open PySem PySem.Spec PyProof.Rows

/-! ### the text by places -/
/-- the j-th statement of a class's body -/
def inClass (s : Stmt) (j : Nat) : Stmt := match s with
  | .ClassDef _ _ _ body _ _ _ _ _ _ _ => body.getD j (.Pass ⟨0, 0, 0, 0⟩)
  | _ => .Pass ⟨0, 0, 0, 0⟩
def defArgs (s : Stmt) : Arguments := match s with
  | .FunctionDef _ a _ _ _ _ _ _ _ _ => a
  | _ => { posonlyargs := [], args := [], vararg := none, kwonlyargs := [], kw_defaults := [], kwarg := none, defaults := [] }
def defBody (s : Stmt) : List Stmt := match s with
  | .FunctionDef _ _ b _ _ _ _ _ _ _ => b
  | _ => []
def defScope (s : Stmt) : Scope := match s with
  | .FunctionDef _ _ _ _ _ _ sc _ _ _ => sc
  | _ => { kind := .function, names := [], isGenerator := false, isCoroutine := false }

/-! ### no exception leaves a def -/
abbrev CX0 : CXT := fun _ _ _ _ _ _ => False
abbrev E0 : XK := fun _ _ _ => False
theorem pass0 {X : Cx} : Passes CX0 X E0 := fun _ _ _ _ _ _ _ h => h.elim

/-! ### a def (or method) of the text as it stands behind the top -/
structure Fun (K : PySem.W.Frag) (x qual : Str) (st : Stmt) (f : Addr) (fd : FuncData) : Prop where
  ex : ∃ (oc : Value) (od : Option Addr) (kV doc pm : Value) (an : Option Addr) (cdv ct : Value) (osl : Array (Option Value)),
    fd = PySem.W.fnOf x qual (defArgs st) (defBody st) (defScope st) .none kV doc pm an cdv ct ∧ K.lookup f = some ⟨oc, od, .func fd, osl⟩ ∧ PySem.W.codeIn K cdv qual = true
  kp : PySem.W.keepIn K (.ref f) = true
section
variable {P : Program} {w : World} {K : PySem.W.Frag} {mg : Str → Option Value} {base : Heap}
/-- THE RULE for a def: its body as a term of rules, and the reading of that term -/
theorem Fun.ok {x qual : Str} {st : Stmt} {f : Addr} {fd : FuncData} {N ps : List Str} {k : Nat} {sp : Sp} (F : Fun K x qual st f fd) (S : FnScope N ps (defScope st)) (len : ∀ vs H Q E, sp vs H Q E → vs.length = ps.length)
    (hbody : ∀ (cdv : Value) (A : Around) (outer : List Env) (s : Shared) (H : Hp) (vs : List V) (Q : VK) (E : XK), Room k (A.deeper (envOfC qual (defScope st) s.heap.objs.size f cdv)) → sp vs H Q E →
      ∃ t, PSs (cxOf CX0 P w K mg base N qual (defScope st) f cdv A outer s H E).nox (defBody st) t ∧ t { nx := fun _ H' => Q .non H', rt := Q } (start N vs) H) : FnOk P w K mg base CX0 (k + 1) f fd ps sp := by
  obtain ⟨oc, od, kV, doc, pm, an, cdv, ct, osl, rfl, lk, hcd⟩ := F.ex
  refine fn_of lk hcd S len fun A outer s H vs Q E hr hsp => ?_
  obtain ⟨t, h, q⟩ := hbody cdv A outer s H vs Q E hr hsp
  exact ⟨t, h.nox, q⟩
/-- how its arguments bind (no defaults): h is «fun _ _ _ _ _ _ us hl => match us, hl with | [_, _], _ => rfl», one _ a parameter -/
theorem Fun.binds {x qual : Str} {st : Stmt} {f : Addr} {fd : FuncData} {ps : List Str} (F : Fun K x qual st f fd)
    (h : ∀ (kV doc pm : Value) (an : Option Addr) (cdv ct : Value) (us : List Value), us.length = ps.length → bindArgs (PySem.W.fnOf x qual (defArgs st) (defBody st) (defScope st) .none kV doc pm an cdv ct) ⟨us, []⟩ = pure (ps.zip us)) : Binds K fd ps [] := by
  obtain ⟨oc, od, kV, doc, pm, an, cdv, ct, osl, rfl, lk, hcd⟩ := F.ex
  exact .all (h kV doc pm an cdv ct)
theorem fun_mk {x qual : Str} {st : Stmt} {f : Addr} {oc : Value} {od an : Option Addr} {osl : Array (Option Value)} {kV doc pm cdv ct : Value} (l : K.lookup f = some ⟨oc, od, .func (PySem.W.fnOf x qual (defArgs st) (defBody st) (defScope st) .none kV doc pm an cdv ct), osl⟩)
    (c : PySem.W.codeIn K cdv qual = true) (k : PySem.W.keepIn K (.ref f) = true) : Fun K x qual st f (PySem.W.fnOf x qual (defArgs st) (defBody st) (defScope st) .none kV doc pm an cdv ct) := ⟨⟨oc, od, kV, doc, pm, an, cdv, ct, osl, rfl, l, c⟩, k⟩
end
theorem hu_of {A : Around} {k : Nat} (hr : Room k A) : A.units + 1 < cLine := Nat.lt_of_le_of_lt (Nat.add_le_add_left (by decide : 1 ≤ 64) _) hr.units
theorem small1000 {n : Nat} (h : n ≤ 1000) : n < sizeLine := Nat.lt_of_le_of_lt h (by decide)

/-! ### expressions in short: the name that stands in the i-th slot -/
section
variable {X : Cx}
theorem pv (i : Nat) {x : Str} {pos : Pos} (hN : X.N[i]? = some x := by rfl) (hv : Vis X.env.scope x := by first | exact Or.inl rfl | exact Or.inr (Or.inl rfl) | exact Or.inr (Or.inr rfl)) (hd : (x == ("__debug__" : Str)) = false := by decide)
    (hcd : (x == ("__classdict__" : Str)) = false := by decide) : PE X (.Name x pos) (tVar i) := pe_var hN hv hd hcd
end

/-! ### tests -/
theorem iteF {A B : Prop} (h : B) : if false = true then A else B := by
  rw [if_neg Bool.false_ne_true]
  exact h
theorem iteT {A B : Prop} (h : A) : if true = true then A else B := by
  rw [if_pos rfl]
  exact h
theorem ite2 {c A B : Prop} [Decidable c] (h1 : c → A) (h2 : ¬ c → B) : if c then A else B := by
  by_cases h : c
  · rw [if_pos h]
    exact h1 h
  · rw [if_neg h]
    exact h2 h

/-! ### heaps -/
/-- all that was tracked is as it was -/
def Same (H H' : Hp) : Prop := ∀ b o, H b = some o → H' b = some o
theorem Same.refl (H : Hp) : Same H H := fun _ _ h => h
theorem Same.trans {H H1 H2 : Hp} (a : Same H H1) (b : Same H1 H2) : Same H H2 := fun c o h => b c o (a c o h)
theorem Same.free {H H' : Hp} (e : Same H H') {l : Addr} (h : H' l = Option.none) : H l = Option.none := by
  cases q : H l with
  | none => rfl
  | some o =>
    rw [e l o q] at h
    cases h

end L2

set_option Elab.async false
set_option linter.all false
set_option maxRecDepth 100000
namespace L2
open PySem PySem.Spec PyProof.Rows

/-! ### lists of pairs as tables -/
section
variable {κ : Type} [DecidableEq κ]
def valV (kvs : List (κ × V)) (k : κ) : Option V := (kvs.find? fun kv => decide (kv.1 = k)).map (·.2)
/-- in its place, or at the end -/
def putK (kvs : List (κ × V)) (k : κ) (v : V) : List (κ × V) :=
  if (kvs.any fun kv => decide (kv.1 = k)) = true then kvs.map (fun kv => if kv.1 = k then (kv.1, v) else kv) else kvs ++ [(k, v)]

theorem valV_pos {p : κ × V} {r : List (κ × V)} {k : κ} (e : p.1 = k) : valV (p :: r) k = some p.2 := by simp [valV, List.find?_cons, e]
theorem valV_neg {p : κ × V} {r : List (κ × V)} {k : κ} (e : ¬ p.1 = k) : valV (p :: r) k = valV r k := by simp [valV, List.find?_cons, e]
theorem valV_any (k : κ) : ∀ kvs : List (κ × V), (kvs.any fun kv => decide (kv.1 = k)) = (valV kvs k).isSome
  | [] => rfl
  | p :: r => by
    rw [List.any_cons]
    by_cases e : p.1 = k
    · simp only [valV_pos e, decide_eq_true e, Bool.true_or, Option.isSome_some]
    · rw [valV_neg e, decide_eq_false e, Bool.false_or]; exact valV_any k r
theorem length_putK (kvs : List (κ × V)) (k : κ) (v : V) : (putK kvs k v).length ≤ kvs.length + 1 := by
  unfold putK
  split
  · rw [List.length_map]; omega
  · rw [List.length_append, List.length_cons, List.length_nil]; omega
theorem putK_new {kvs : List (κ × V)} {k : κ} (v : V) (h : valV kvs k = none) : putK kvs k v = kvs ++ [(k, v)] := by
  unfold putK
  rw [valV_any, h]
  exact if_neg (by decide)

theorem RelO.isSome_eq {o : Option V} {u : Option Value} (r : RelO o u) : o.isSome = u.isSome := by
  cases o with
  | none => cases u with
    | none => rfl
    | some _ => exact (show False from r).elim
  | some _ => cases u with
    | none => exact (show False from r).elim
    | some _ => rfl

/-- raw tables of the same keys -/
theorem KV.val {kvs : List (κ × V)} {vs : List (κ × Value)} (r : KV kvs vs) (k : κ) : RelO (valV kvs k) (valueAt vs k) := by
  unfold KV at r
  induction r with
  | nil => exact True.intro
  | @cons p q ps qs h t ih =>
    obtain ⟨h1, h2⟩ := h
    by_cases e : p.1 = k
    · have e' : q.1 = k := h1.symm.trans e
      have b : valueAt (q :: qs) k = some q.2 := by simp [valueAt, List.find?_cons, e']
      rw [valV_pos e, b]; exact h2
    · have e' : ¬ q.1 = k := fun z => e (h1.trans z)
      have b : valueAt (q :: qs) k = valueAt qs k := by simp [valueAt, List.find?_cons, e']
      rw [valV_neg e, b]; exact ih
theorem KV.any {kvs : List (κ × V)} {vs : List (κ × Value)} (r : KV kvs vs) (k : κ) : (kvs.any fun kv => decide (kv.1 = k)) = vs.any fun kv => decide (kv.1 = k) := by
  unfold KV at r
  induction r with
  | nil => rfl
  | cons h t ih => rw [List.any_cons, List.any_cons, ih, h.1]
theorem KV.repl {kvs : List (κ × V)} {vs : List (κ × Value)} (r : KV kvs vs) (k : κ) {y : V} {u : Value} (ry : RelV y u) :
    KV (kvs.map fun kv => if kv.1 = k then (kv.1, y) else kv) (vs.map fun kv => if kv.1 = k then (kv.1, u) else kv) := by
  unfold KV at r ⊢
  induction r with
  | nil => exact .nil
  | @cons p q ps qs h t ih =>
    rw [List.map_cons, List.map_cons]
    refine .cons ?_ ih
    obtain ⟨h1, h2⟩ := h
    by_cases e : p.1 = k
    · rw [if_pos e, if_pos (h1.symm.trans e)]; exact ⟨h1, ry⟩
    · rw [if_neg e, if_neg (fun z => e (h1.trans z))]; exact ⟨h1, h2⟩
theorem KV.put {kvs : List (κ × V)} {vs : List (κ × Value)} (r : KV kvs vs) (k : κ) {y : V} {u : Value} (ry : RelV y u) : KV (putK kvs k y) (stored vs k u) := by
  unfold putK stored
  rw [r.any k]
  by_cases e : (vs.any fun kv => decide (kv.1 = k)) = true
  · rw [if_pos e, if_pos e]; exact r.repl k ry
  · rw [if_neg e, if_neg e]; exact Paired.snoc r ⟨rfl, ry⟩
theorem KV.keys {kvs : List (κ × V)} {vs : List (κ × Value)} (r : KV kvs vs) : kvs.map (·.1) = vs.map (·.1) := by
  unfold KV at r
  induction r with
  | nil => rfl
  | cons h t ih => rw [List.map_cons, List.map_cons, ih, h.1]
theorem KV.length {kvs : List (κ × V)} {vs : List (κ × Value)} (r : KV kvs vs) : kvs.length = vs.length := Paired.length r
end


/-! ### a tracked dict, its keys ints and texts or tuples of these -/
theorem kV_is {P : Program} {w : World} {k : Key} {u : Value} (r : RelV (kV k) u) : (mixKind P w).is k u = true := by
  cases k with
  | inl i => obtain ⟨t, e⟩ := (show ∃ t, u = Value.int i t from r); subst e; exact mixKind_int P w i t
  | inr x => obtain ⟨t, e⟩ := (show ∃ t, u = Value.str x t from r); subst e; exact mixKind_str P w x t
theorem items_are {P : Program} {w : World} : ∀ {ks : List Key} {us : List Value}, Vals (ks.map kV) us → ItemsAre (mixKind P w) ks us
  | [], _, r => by rw [List.map_nil] at r; cases r; exact .nil
  | k :: ks, _, r => by
    rw [List.map_cons] at r
    cases r with
    | cons h t => exact .cons (kV_is h) (items_are t)

/-- raw entries of a dict with tuple keys -/
abbrev KT (H : Hp) : List (List Key × V) → List (List Key × Addr × Value) → Prop := Paired fun p q => p.1 = q.1 ∧ H q.2.1 = some (.tup (p.1.map kV)) ∧ RelV p.2 q.2.2
theorem KT.val {H : Hp} {kvs : List (List Key × V)} {xs : List (List Key × Addr × Value)} (r : KT H kvs xs) (k : List Key) : RelO (valV kvs k) ((atKey xs k).map (·.2)) := by
  induction r with
  | nil => exact True.intro
  | @cons p q ps qs h t ih =>
    obtain ⟨h1, _, h2⟩ := h
    by_cases e : p.1 = k
    · have e' : q.1 = k := h1.symm.trans e
      have b : atKey (q :: qs) k = some q.2 := by simp [atKey, List.find?_cons, e']
      rw [valV_pos e, b]; exact h2
    · have e' : ¬ q.1 = k := fun z => e (h1.trans z)
      have b : atKey (q :: qs) k = atKey qs k := by simp [atKey, List.find?_cons, e']
      rw [valV_neg e, b]; exact ih
theorem KT.repl {H : Hp} {kvs : List (List Key × V)} {xs : List (List Key × Addr × Value)} (r : KT H kvs xs) (k : List Key) {y : V} {u : Value} (ry : RelV y u) :
    KT H (kvs.map fun kv => if kv.1 = k then (kv.1, y) else kv) (xs.map (putAt k u)) := by
  induction r with
  | nil => exact .nil
  | @cons p q ps qs h t ih =>
    rw [List.map_cons, List.map_cons]
    refine .cons ?_ ih
    obtain ⟨h1, h2, h3⟩ := h
    unfold putAt
    by_cases e : p.1 = k
    · rw [if_pos e, if_pos (h1.symm.trans e)]; exact ⟨h1, h2, ry⟩
    · rw [if_neg e, if_neg (fun z => e (h1.trans z))]; exact ⟨h1, h2, h3⟩
theorem KT.put {H : Hp} {kvs : List (List Key × V)} {xs : List (List Key × Addr × Value)} (r : KT H kvs xs) (k : List Key) {b : Addr} {y : V} {u : Value} (hb : H b = some (.tup (k.map kV))) (ry : RelV y u) :
    KT H (putK kvs k y) (storedH xs k b u) := by
  have e : (kvs.any fun kv => decide (kv.1 = k)) = (atKey xs k).isSome := by
    rw [valV_any, (r.val k).isSome_eq, Option.isSome_map]
  unfold putK storedH
  rw [e]
  by_cases q : (atKey xs k).isSome = true
  · rw [if_pos q, if_pos q]; exact r.repl k ry
  · rw [if_neg q, if_neg q]; exact Paired.snoc r ⟨rfl, hb, ry⟩
theorem KT.keeps {H H' : Hp} {kvs : List (List Key × V)} {xs : List (List Key × Addr × Value)} (r : KT H kvs xs) (ht : ∀ b ys, H b = some (.tup ys) → H' b = some (.tup ys)) : KT H' kvs xs :=
  Paired.mapP r fun _ _ z => ⟨z.1, ht _ _ z.2.1, z.2.2⟩

section
variable {P : Program} {w : World} {H : Hp} {h : Heap} {a : Addr}
theorem rd_of {u : HO} (ok : HOk P w H h) (e : Rd H a u) : ObjOk P w H h a u := e.ok ok
theorem dk_rd {kvs : List (Key × V)} (ok : HOk P w H h) (e : Rd H a (.dK kvs)) : kvs.length ≤ sizeLine ∧ (a == sysModules) = false ∧ ∃ vs, KV kvs vs ∧ h.DictOf (mixKind P w) a vs :=
  show ObjOk P w H h a (.dK kvs) from rd_of ok e
theorem dk_of {kvs : List (Key × V)} (ok : HOk P w H h) (e : H a = some (.dK kvs)) : kvs.length ≤ sizeLine ∧ (a == sysModules) = false ∧ ∃ vs, KV kvs vs ∧ h.DictOf (mixKind P w) a vs := dk_rd ok (.inl e)
/-- a tracked tuple of ints and texts is a key -/
theorem key_of {ks : List Key} (ok : HOk P w H h) (e : H a = some (.tup (ks.map kV))) : (tupleKind (mixKind P w)).is h ks a := by
  obtain ⟨_, its, r, o, h1, h2, n, h3⟩ := (show ObjOk P w H h a (.tup (ks.map kV)) from ok a _ e)
  exact ⟨o, its.toArray, n, h1, h2, h3, by simpa using items_are r⟩
theorem dt_rd {kvs : List (List Key × V)} (ok : HOk P w H h) (e : Rd H a (.dT kvs)) : kvs.length ≤ sizeLine ∧ (a == sysModules) = false ∧
    ∃ xs, KT H kvs xs ∧ h.DictOfH (tupleKind (mixKind P w)) a xs := by
  obtain ⟨z, y, xs, r, o, es, ep, h1, h2, h3, h4, h5⟩ := (show ObjOk P w H h a (.dT kvs) from rd_of ok e)
  refine ⟨z, y, xs, r, o, es, ep, h1, h2, h3, h4, fun x hx => ?_, h5⟩
  have all : ∀ {l : List (List Key × V)} {m : List (List Key × Addr × Value)}, KT H l m → ∀ x ∈ m, (tupleKind (mixKind P w)).is h x.1 x.2.1 := by
    intro l m q
    induction q with
    | nil => intro x hx; exact nomatch hx
    | @cons p q ps qs hq t ih =>
      intro x hx
      rcases List.mem_cons.mp hx with e | hx
      · subst e
        exact key_of ok (by rw [← hq.1]; exact hq.2.1)
      · exact ih x hx
  exact all r x hx
theorem dt_of {kvs : List (List Key × V)} (ok : HOk P w H h) (e : H a = some (.dT kvs)) : kvs.length ≤ sizeLine ∧ (a == sysModules) = false ∧
    ∃ xs, KT H kvs xs ∧ h.DictOfH (tupleKind (mixKind P w)) a xs := dt_rd ok (.inl e)
end

/-- what the dict at a holds at the key y -/
def DGet (H : Hp) (a : Addr) (y : V) (r : Option V) : Prop :=
  (∃ kvs k, Rd H a (.dK kvs) ∧ y = kV k ∧ r = valV kvs k) ∨ ∃ kvs k b, Rd H a (.dT kvs) ∧ y = .ref b ∧ H b = some (.tup (k.map kV)) ∧ r = valV kvs k
/-- the heap behind a[y] = v -/
def DPut (H : Hp) (a : Addr) (y v : V) (H' : Hp) : Prop :=
  (∃ kvs k, H a = some (.dK kvs) ∧ y = kV k ∧ kvs.length < sizeLine ∧ H' = upd H a (.dK (putK kvs k v))) ∨
  ∃ kvs k b, H a = some (.dT kvs) ∧ y = .ref b ∧ H b = some (.tup (k.map kV)) ∧ kvs.length < sizeLine ∧ H' = upd H a (.dT (putK kvs k v))
theorem DGet.k {H : Hp} {a : Addr} {kvs : List (Key × V)} {k : Key} (e : H a = some (.dK kvs)) : DGet H a (kV k) (valV kvs k) := .inl ⟨kvs, k, .inl e, rfl, rfl⟩
theorem DPut.k {H : Hp} {a : Addr} {kvs : List (Key × V)} {k : Key} {v : V} (e : H a = some (.dK kvs)) (hl : kvs.length < sizeLine) : DPut H a (kV k) v (upd H a (.dK (putK kvs k v))) := .inl ⟨kvs, k, e, rfl, hl, rfl⟩


section
variable {X : Cx} {pins : List (Addr × Obj)} {σ : St} {H : Hp} {s : Shared} {a : Addr} {y v : V} {u r : Value} {o : Option V} {A : Around} {E : Value → Shared → Prop}

theorem Inv.big (I : Inv X pins σ H s) : sysModules < s.heap.objs.size := by
  have h : mainGlobals < s.heap.objs.size := (I.mod.glob.keeps I.bk).lt
  exact Nat.lt_trans (by decide) h

/-- d[y], there -/
theorem d_getItem {Q : Value → Shared → Prop} (hu : A.units + 1 < cLine) (I : Inv X pins σ H s) (g : DGet H a y (some v)) (ry : RelV y u) (h : ∀ w' s', Inv X pins σ H s' → RelV v w' → Q w' s') :
    wpAny (model X.prog X.w) A (getItem (.ref a) u) Q E s := by
  rcases g with ⟨kvs, k, e, ey, l⟩ | ⟨kvs, k, b, e, ey, eb, l⟩
  · subst ey
    obtain ⟨z, hd, vs, rel, dd⟩ := dk_rd I.hok e
    obtain ⟨w', hw, rw'⟩ := RelO.some_of (v := v) (o := valueAt vs k) (by rw [l]; exact rel.val k)
    exact wpAny_getItem_of (kV_is ry) dd.mapOf hw (h w' _ (I.tok _) rw')
  · subst ey
    cases (show u = Value.ref b from ry)
    obtain ⟨z, hd, xs, rel, dd⟩ := dt_rd I.hok e
    obtain ⟨w', hw, rw'⟩ := RelO.some_of (v := v) (o := (atKey xs k).map (·.2)) (by rw [l]; exact rel.val k)
    obtain ⟨p, hp, hp2⟩ := Option.map_eq_some_iff.mp hw
    refine wpAny_getItem_heap (tupleKind_room_in1 hu) (key_of I.hok eb) dd hp ?_
    rw [hp2]
    exact h w' _ (I.tok _) rw'
theorem d_notIn {Q : Value → Shared → Prop} (hu : A.units + 1 < cLine) (I : Inv X pins σ H s) (g : DGet H a y o) (ry : RelV y u) (h : ∀ s', Inv X pins σ H s' → Q (.bool (!o.isSome)) s') :
    wpAny (model X.prog X.w) A (compareOp .NotIn u (.ref a)) Q E s := by
  rcases g with ⟨kvs, k, e, ey, l⟩ | ⟨kvs, k, b, e, ey, eb, l⟩
  · subst ey
    obtain ⟨z, hd, vs, rel, dd⟩ := dk_rd I.hok e
    refine wpAny_notIn_of (kV_is ry) hd dd.mapOf ?_
    rw [← (rel.val k).isSome_eq, ← l]
    exact h _ (I.tok _)
  · subst ey
    cases (show u = Value.ref b from ry)
    obtain ⟨z, hd, xs, rel, dd⟩ := dt_rd I.hok e
    refine wpAny_notIn_heap (tupleKind_room_in1 hu) (key_of I.hok eb) hd dd ?_
    have q := (rel.val k).isSome_eq
    rw [Option.isSome_map] at q
    rw [← q, ← l]
    exact h _ (I.tok _)
/-- a dict's object is replaced -/
theorem d_write {h' : Heap} {t' : Nat} {ob : HO} (I : Inv X pins σ H s) (mu : Mut (H a)) (hs : Heap.SameBut a s.heap h') (he : ∃ q, h'.get? a = some q) (new : ObjOk X.prog X.w (upd H a ob) h' a ob) :
    Inv X pins σ (upd H a ob) { s with heap := h', toks := t' } :=
  I.write (x := a) (e := a) mu (.inl rfl) (fun b q hb z => (hs.2 b hb).trans z) he new
theorem dk_new {P : Program} {w : World} {H' : Hp} {h' : Heap} {kvs : List (Key × V)} {vs : List (Key × Value)} (z : kvs.length ≤ sizeLine) (hd : (a == sysModules) = false) (rel : KV kvs vs) (dd : h'.DictOf (mixKind P w) a vs) :
    ObjOk P w H' h' a (.dK kvs) := ⟨z, hd, vs, rel, dd⟩
/-- d[y] = v -/
theorem d_setItem {H' : Hp} {Q : Unit → Shared → Prop} (hu : A.units + 1 < cLine) (I : Inv X pins σ H s) (g : DPut H a y v H') (ry : RelV y u) (rv : RelV v r) (h : ∀ s', Inv X pins σ H' s' → Q () s') :
    wpAny (model X.prog X.w) A (setItem (.ref a) u r) Q E s := by
  rcases g with ⟨kvs, k, e, ey, l, eH⟩ | ⟨kvs, k, b, e, ey, eb, l, eH⟩
  · subst ey eH
    obtain ⟨z, hd, vs, rel, dd⟩ := dk_of I.hok e
    have hz : vs.length ≤ sizeLine := by rw [← rel.length]; exact z
    have hl : (putK kvs k v).length ≤ sizeLine := by have := length_putK kvs k v; omega
    refine wpAny_setItem_pairs (hsz := hz) (kV_is ry) dd fun h' dd' hs => h _ ?_
    have he : ∃ q, h'.get? a = some q := let ⟨q, _, _, hq, _⟩ := dd'; ⟨q, hq⟩
    exact d_write I (by rw [e]; exact True.intro) hs he (dk_new hl hd (rel.put k rv) dd')
  · subst ey eH
    cases (show u = Value.ref b from ry)
    obtain ⟨z, hd, xs, rel, dd⟩ := dt_of I.hok e
    have hz : xs.length ≤ sizeLine := by rw [← Paired.length rel]; exact z
    have hl : (putK kvs k v).length ≤ sizeLine := by have := length_putK kvs k v; omega
    refine wpAny_setItem_heap (hsz := hz) (tupleKind_room_in1 hu) (key_of I.hok eb) dd fun h' dd' hs => h _ ?_
    obtain ⟨q, es, ep, hq, h2, h3, h4, _, h5⟩ := dd'
    refine d_write I (by rw [e]; exact True.intro) hs ⟨q, hq⟩ ⟨hl, hd, _, (rel.put k eb rv).keeps fun c ys ec => ?_, q, es, ep, hq, h2, h3, h4, h5⟩
    rw [upd_ne (ne_of ec e (fun z => nomatch z))]
    exact ec
end

section
variable {X : Cx} {pins : List (Addr × Obj)} {σ : St} {H : Hp} {s : Shared} {a : Addr} {kvs : List (Key × V)} {k : Key} {u : Value} {A : Around} {E : Value → Shared → Prop}
end


/-! ### readings and rules -/
/-- the element of a subscription, not a slice -/
def NoSl (i : Expr) : Prop := ∀ ov iv, subscripted i false ov iv = operate [ov, iv] (getItem ov iv)
theorem subD_of {prog : Program} {w : World} {A : Around} {E : Value → Shared → Prop} {s : Shared} {env : Env} {value slice : Expr} {pos : Pos} {T id : String} {Q : Value → Shared → Prop}
    (hl : typeLookup (.type T) "__getitem__" = pure (some (.builtin id))) (hs : NoSl slice)
    (h : wpAny (model prog w) A (eval value env) (fun o s₁ => wpAny (model prog w) A (eval slice env) (fun i s₂ => s₂.TypeIs o T ∧ wpAny (model prog w) A (getItem o i) Q E s₂) E s₁) E s) :
    wpAny (model prog w) A (eval (.Subscript value slice pos) env) Q E s := by
  refine Subscript_ (wpAny_mono h (fun o s₁ h₁ => wpAny_mono h₁ (fun i s₂ h₂ => ?_) fun _ _ x => x) fun _ _ x => x)
  obtain ⟨hT, h₂⟩ := h₂
  unfold subscriptTail
  refine wpAny_bind ?_
  rw [getitemInPython_of_ne hT.not_modules]
  refine wpAny_bind (wpAny_specialOf hT hl ?_)
  have fin : wpAny (model prog w) A (subscripted slice false o i) (fun r s₃ => wpAny (model prog w) A (letTemporaryGo value o r >>= fun _ => pure r) Q E s₃) E s₂ := by
    rw [hs o i]
    exact wpAny_operating (wpAny_mono h₂ (fun r s₃ h₃ => wpAny_bind (wpAny_letTemporaryGo (wpAny_pure h₃))) fun _ _ x => x)
  first
    | exact wpAny_pure (wpAny_bind fin)
    | exact wpAny_bind (wpAny_pure (wpAny_bind fin))
    | exact wpAny_bind fin

theorem dict_typeIs {X : Cx} {pins : List (Addr × Obj)} {σ : St} {H : Hp} {s : Shared} {a : Addr} {y : V} {o : Option V} (I : Inv X pins σ H s) (g : DGet H a y o) : s.TypeIs (.ref a) "dict" := by
  rcases g with ⟨kvs, k, e, _, _⟩ | ⟨kvs, k, b, e, _, _, _⟩
  · obtain ⟨_, _, vs, _, dd⟩ := dk_rd I.hok e
    exact dd.typeIs
  · obtain ⟨_, _, xs, _, dd⟩ := dt_rd I.hok e
    exact dd.typeIs

/-- d[y] -/
def tDGet (td ty : TE) : TE := fun σ H Q => td σ H fun x H1 => ty σ H1 fun y H2 => ∃ a v, x = .ref a ∧ DGet H2 a y (some v) ∧ Q v H2
def tDNotIn (ty td : TE) : TE := fun σ H Q => ty σ H fun y H1 => td σ H1 fun x H2 => ∃ a o, x = .ref a ∧ DGet H2 a y o ∧ Q (.bl (!o.isSome)) H2
/-- d[y] = v -/
def sDPut (td ty tv : TE) : TS := fun D σ H => tv σ H fun v H1 => td σ H1 fun x H2 => ty σ H2 fun y H3 => ∃ a H4, x = .ref a ∧ DPut H3 a y v H4 ∧ D.nx σ H4

section
variable {X : Cx} {o i e value : Expr} {pos pos' tpos : Pos} {td ty tv : TE}
theorem pe_dget (hu : X.A.units + 1 < cLine) (ho : PE X o td) (hi : PE X i ty) (hs : NoSl i) : PE X (.Subscript o i pos) (tDGet td ty) := by
  intro pins s σ H Q I h
  refine subD_of PySem.F.slot_dict_getitem.lookup hs (thn (ho pins s σ H _ I h) fun u s1 ⟨x, H1, I1, rx, q1⟩ => thn (hi pins s1 σ H1 _ I1 q1) fun iv s2 ⟨y, H2, I2, ry, a, v, ex, g, q2⟩ => ?_)
  subst ex
  obtain rfl : u = Value.ref a := rx
  exact ⟨dict_typeIs I2 g, d_getItem hu I2 g ry fun w' s3 I3 rw' => ⟨v, H2, I3, rw', q2⟩⟩
theorem pc_dnotin (hu : X.A.units + 1 < cLine) (hi : PE X i ty) (ho : PE X o td) : PC X .NotIn i o (tDNotIn ty td) := by
  intro pins s σ H Q I h
  refine thn (hi pins s σ H _ I h) fun iv s1 ⟨y, H1, I1, ry, q1⟩ => thn (ho pins s1 σ H1 _ I1 q1) fun u s2 ⟨x, H2, I2, rx, a, ov, ex, g, q2⟩ => ?_
  subst ex
  obtain rfl : u = Value.ref a := rx
  exact d_notIn hu I2 g ry fun s3 I3 => ⟨.bl (!ov.isSome), H2, I3, rfl, q2⟩
theorem ps_dput (hu : X.A.units + 1 < cLine) (ho : PE X o td) (hi : PE X i ty) (hv : PE X value tv) (hs : swapsWith value (some (.Subscript o i pos')) pos.line X.env = pure false) :
    PS X (.Assign [.Subscript o i pos'] value pos) (sDPut td ty tv) := by
  intro pins s σ H D I h
  refine wpAny_Assign_Subscript (thn (hv pins s σ H _ I h) fun r s1 ⟨v, H1, I1, rv, q1⟩ => thn (ho pins s1 σ H1 _ I1 q1) fun u s2 ⟨x, H2, I2, rx, q2⟩ => thn (hi pins s2 σ H2 _ I2 q2) fun iv s3 ⟨y, H3, I3, ry, a, H4, ex, g, q3⟩ => ?_) hs
  subst ex
  obtain rfl : u = Value.ref a := rx
  exact d_setItem hu I3 g ry rv fun s4 I4 => ⟨σ, H4, I4, q3⟩
end


/-! ### displays -/
theorem dk_empty {P : Program} {w : World} {H : Hp} (h : Heap) (hb : sysModules < h.objs.size) : ObjOk P w H (h.push { cls := .type "dict", data := .dict #[] }) h.objs.size (.dK []) :=
  ⟨Nat.zero_le _, beq_eq_false_iff_ne.mpr (Ne.symm (Nat.ne_of_lt hb)), [], .nil, Heap.DictOf.new h⟩
section
variable {X : Cx} {pos : Pos}
end

/-- the pairs of a display, from the left -/
def tPairs : List (TE × TE) → St → Hp → (List (V × V) → Hp → Prop) → Prop
  | [], _, H, Q => Q [] H
  | (tk, tv) :: r, σ, H, Q => tk σ H fun x H1 => tv σ H1 fun y H2 => tPairs r σ H2 fun ps H3 => Q ((x, y) :: ps) H3
abbrev VV : List (V × V) → List (Value × Value) → Prop := Paired fun p q => RelV p.1 q.1 ∧ RelV p.2 q.2
def PPs (X : Cx) (pos : Pos) (keys : List (Option Expr)) (values : List Expr) (trs : List (TE × TE)) : Prop :=
  ∀ (pins : List (Addr × Obj)) (s : Shared) (σ : St) (H : Hp) (Q : List (V × V) → Hp → Prop), Inv X pins σ H s → tPairs trs σ H Q →
    wpAny (model X.prog X.w) X.A (evalPairs (pairTrees keys values X.env pos)) (fun vs s' => ∃ ps H', Inv X pins σ H' s' ∧ VV ps vs ∧ Q ps H') X.xe s
theorem pps_nil {X : Cx} {pos : Pos} : PPs X pos [] [] [] := fun pins s σ H Q I h => pairTrees_nil_walk ⟨[], H, I, .nil, h⟩
theorem pps_cons {X : Cx} {pos : Pos} {k v : Expr} {ks : List (Option Expr)} {vs : List Expr} {tk tv : TE} {trs : List (TE × TE)} (hk : PE X k tk) (hv : PE X v tv) (hr : PPs X pos ks vs trs) :
    PPs X pos (some k :: ks) (v :: vs) ((tk, tv) :: trs) := fun pins s σ H Q I h =>
  pairTrees_cons_walk (thn (hk pins s σ H _ I h) fun u s1 ⟨x, H1, I1, rx, q1⟩ => thn (hv pins s1 σ H1 _ I1 q1) fun w2 s2 ⟨y, H2, I2, ry, q2⟩ =>
    thn (hr pins s2 σ H2 _ I2 q2) fun ws s3 ⟨ps, H3, I3, rel, q3⟩ => ⟨(x, y) :: ps, H3, I3, .cons ⟨rx, ry⟩ rel, q3⟩)

def mergeK (kvs more : List (Key × V)) : List (Key × V) := more.foldl (fun acc kv => putK acc kv.1 kv.2) kvs
theorem KV.merge : ∀ {more : List (Key × V)} {rs : List (Key × Value)} {kvs : List (Key × V)} {vs : List (Key × Value)}, KV more rs → KV kvs vs → KV (mergeK kvs more) (merged vs rs) := by
  intro more rs kvs vs r
  unfold KV at r
  induction r generalizing kvs vs with
  | nil => intro q; exact q
  | @cons p q ps qs h t ih =>
    intro r0
    have e : KV (putK kvs p.1 p.2) (stored vs q.1 q.2) := by
      have := r0.put p.1 h.2
      rw [← h.1]; exact this
    exact ih e
theorem length_mergeK : ∀ (more kvs : List (Key × V)), (mergeK kvs more).length ≤ kvs.length + more.length
  | [], kvs => by show kvs.length ≤ kvs.length + 0; omega
  | p :: r, kvs => by
    have h1 := length_mergeK r (putK kvs p.1 p.2)
    have h2 := length_putK kvs p.1 p.2
    show (mergeK (putK kvs p.1 p.2) r).length ≤ _
    rw [List.length_cons]; omega
theorem carries_of {P : Program} {w : World} : ∀ {kvs : List (Key × V)} {ws : List (Value × Value)}, VV (kvs.map fun kv => (kV kv.1, kv.2)) ws → ∃ rs, Carries (mixKind P w) ws rs ∧ KV kvs rs
  | [], _, r => by rw [List.map_nil] at r; cases r; exact ⟨[], True.intro, .nil⟩
  | p :: kvs, _, r => by
    rw [List.map_cons] at r
    cases r with
    | @cons a b as bs h t =>
      obtain ⟨rs, c, q⟩ := carries_of (P := P) (w := w) t
      obtain ⟨b1, b2⟩ := b
      exact ⟨(p.1, b2) :: rs, ⟨kV_is h.1, rfl, c⟩, .cons ⟨rfl, h.2⟩ q⟩
/-- {k: v, ..} with keys ints and texts; the new dict stands empty while the pairs are made -/
def tDisp (trs : List (TE × TE)) : TE := fun σ H Q => ∀ p, H p = none → tPairs trs σ (upd H p (.dK [])) fun ps H2 => H2 p = some (.dK []) ∧ ∃ kvs : List (Key × V), ps = kvs.map (fun kv => (kV kv.1, kv.2)) ∧ kvs.length ≤ 15 ∧ Q (.ref p) (upd H2 p (.dK (mergeK [] kvs)))
theorem pe_disp {X : Cx} {pos : Pos} {keys : List (Option Expr)} {values : List Expr} {trs : List (TE × TE)} (h : PPs X pos keys values trs) (hall : keys.all (·.isSome) = true) (hl : keys.length = values.length) (h0 : keys ≠ [])
    (h15 : keys.length ≤ 15) : PE X (.Dict keys values pos) (tDisp trs) := by
  intro pins s σ H Q I q
  have hn := I.hok.fresh (Nat.le_refl s.heap.objs.size)
  have I1 := I.laid (a := s.heap.objs.size) (o := .dK []) (h' := s.heap.push { cls := .type "dict", data := .dict #[] }) (t' := s.toks) (fun _ _ q => Heap.get?_push_of_some _ q) (Nat.le_refl _) (dk_empty s.heap I.big)
  refine wpAny_Dict_walk (knd := mixKind X.prog X.w) hall hl h0 h15 (thn (h pins _ σ _ _ I1 (q _ hn)) fun ws s2 ⟨ps, H2, I2, rel, e, kvs, ep, lk, q2⟩ => ?_)
  subst ep
  obtain ⟨rs, c, rk⟩ := carries_of (P := X.prog) (w := X.w) rel
  obtain ⟨z, hd, vs0, r0, dd⟩ := dk_of I2.hok e
  cases r0
  refine ⟨rs, c, dd, fun h' dd' hs => ⟨.ref s.heap.objs.size, _, ?_, rfl, q2⟩⟩
  have hz : (mergeK [] kvs).length ≤ sizeLine := by
    have h1 := length_mergeK kvs []
    rw [List.length_nil] at h1
    rw [sizeLine_eq]; omega
  have he : ∃ q, h'.get? s.heap.objs.size = some q := let ⟨q, _, _, hq, _⟩ := dd'; ⟨q, hq⟩
  exact d_write I2 (by rw [e]; exact True.intro) hs he (dk_new hz hd (rk.merge .nil) dd')


/-! ### methods -/


section
variable {X : Cx} {pins : List (Addr × Obj)} {σ : St} {H : Hp} {s : Shared} {a : Addr} {y d : V} {u r : Value} {o : Option V} {A : Around} {E : Value → Shared → Prop}
end

section
variable {X : Cx} {o e f : Expr} {apos cpos : Pos} {td ty tx : TE}
end

/-! ### dict(d): a copy -/
section
variable {X : Cx} {pins : List (Addr × Obj)} {σ : St} {H : Hp} {s : Shared} {a : Addr} {kvs : List (Key × V)} {A : Around} {E : Value → Shared → Prop}
end


section
variable {X : Cx} {pins : List (Addr × Obj)} {σ : St} {H : Hp} {s : Shared} {a : Addr} {y : V} {u : Value} {A : Around} {E : Value → Shared → Prop}
end
section
variable {X : Cx}
end
/-! ### a dict's pairs: keys that differ -/
section
variable {κ : Type} [DecidableEq κ]
theorem nd_snoc : ∀ {l : List κ} {k : κ}, l.Nodup → ¬ k ∈ l → (l ++ [k]).Nodup
  | [], k, _, _ => by simp
  | a :: r, k, h, hk => by
    obtain ⟨h1, h2⟩ := List.nodup_cons.mp h
    show (a :: (r ++ [k])).Nodup
    refine List.nodup_cons.mpr ⟨fun m => ?_, nd_snoc h2 fun m => hk (List.mem_cons.mpr (Or.inr m))⟩
    rcases List.mem_append.mp m with q | q
    · exact h1 q
    · exact hk (List.mem_cons.mpr (Or.inl (List.mem_singleton.mp q).symm))
end
end L2


set_option Elab.async false
set_option linter.all false
set_option maxRecDepth 100000
set_option maxHeartbeats 4000000
namespace L2
open PySem PySem.Spec PyProof.Rows

/-! ### comprehensions: the block's names and cells -/
section
variable {M : Model} {A : Around} {E : Value → Shared → Prop} {s : Shared}
def clOf (env : Env) : List (Str × NameKind) → List (Str × Addr) → List (Str × Addr)
  | [], acc => acc
  | (n, k) :: r, acc => if (k == NameKind.free) = true then clOf env r ((n, (env.cells.lookup n).getD 0) :: acc) else clOf env r acc
theorem clOf_loop {env : Env} (f : Str × NameKind → List (Str × Addr) → Sem (ForInStep (List (Str × Addr))))
    (hf : ∀ n k cs, f (n, k) cs = if (k == NameKind.free) = true then (do let a ← cellOf env n; pure (.yield ((n, a) :: cs))) else pure (.yield cs)) :
    ∀ (names : List (Str × NameKind)) (acc : List (Str × Addr)), (∀ p ∈ names, p.2 = .free → ∃ c, env.cells.lookup p.1 = some c) → forIn names acc f = pure (clOf env names acc)
  | [], acc, _ => by rw [List.forIn_nil]; rfl
  | (n, k) :: r, acc, h => by
    have hr : ∀ p ∈ r, p.2 = .free → ∃ c, env.cells.lookup p.1 = some c := fun p hp => h p (List.mem_cons_of_mem _ hp)
    rw [List.forIn_cons, hf, clOf]
    by_cases hk : (k == NameKind.free) = true
    · obtain ⟨c, hc⟩ := h (n, k) List.mem_cons_self (by simpa using hk)
      have hc' : env.cells.lookup n = some c := hc
      rw [if_pos hk, if_pos hk]
      have e : cellOf env n = pure c := by unfold cellOf; rw [hc']
      rw [e, hc']
      exact clOf_loop f hf r _ hr
    · rw [if_neg hk, if_neg hk]
      exact clOf_loop f hf r _ hr
theorem closureFor_of {sc : Scope} {env : Env} (h : ∀ p ∈ sc.names, p.2 = .free → ∃ c, env.cells.lookup p.1 = some c) : closureFor sc env = pure (clOf env sc.names []) := by
  unfold closureFor
  have e := clOf_loop (env := env) (fun (x : Str × NameKind) (r : List (Str × Addr)) => if (x.2 == NameKind.free) = true then (do let a ← cellOf env x.1; pure (ForInStep.yield ((x.1, a) :: r))) else pure (ForInStep.yield r)) (fun _ _ _ => rfl) sc.names [] h
  exact (congrArg (fun m => m >>= fun cs => pure cs) e)
theorem clOf_mem {env : Env} {x : Str} {c : Addr} : ∀ {names : List (Str × NameKind)} {acc : List (Str × Addr)}, (x, c) ∈ clOf env names acc → (x, c) ∈ acc ∨ ((x, NameKind.free) ∈ names ∧ c = (env.cells.lookup x).getD 0)
  | [], _, h => .inl h
  | (n, k) :: r, acc, h => by
    unfold clOf at h
    split at h
    · rename_i hk
      have hk' : k = .free := by simpa using hk
      rcases clOf_mem h with q | ⟨q, e⟩
      · rcases List.mem_cons.mp q with q | q
        · cases q; exact .inr ⟨by rw [hk']; exact List.mem_cons_self, rfl⟩
        · exact .inl q
      · exact .inr ⟨List.mem_cons_of_mem _ q, e⟩
    · rcases clOf_mem h with q | ⟨q, e⟩
      · exact .inl q
      · exact .inr ⟨List.mem_cons_of_mem _ q, e⟩
theorem lookup_mem_some {β : Type} {x : Str} {c : β} : ∀ {l : List (Str × β)}, (x, c) ∈ l → ∃ c', l.lookup x = some c'
  | [], h => nomatch h
  | (n, k) :: r, h => by
    cases hx : x == n with
    | true => exact ⟨k, by simp [List.lookup_cons, hx]⟩
    | false =>
      rcases List.mem_cons.mp h with q | q
      · cases q; simp at hx
      · obtain ⟨c', e⟩ := lookup_mem_some q
        exact ⟨c', by simp [List.lookup_cons, hx, e]⟩
theorem clOf_has {env : Env} {x : Str} : ∀ {names : List (Str × NameKind)} {acc : List (Str × Addr)}, ((x, NameKind.free) ∈ names ∨ ∃ c, (x, c) ∈ acc) → ∃ c, (x, c) ∈ clOf env names acc
  | [], acc, h => by
    rcases h with h | ⟨c, h⟩
    · exact nomatch h
    · exact ⟨c, h⟩
  | (n, k) :: r, acc, h => by
    unfold clOf
    split
    · rename_i hk
      apply clOf_has
      rcases h with h | ⟨c, h⟩
      · rcases List.mem_cons.mp h with q | q
        · cases q; exact .inr ⟨_, List.mem_cons_self⟩
        · exact .inl q
      · exact .inr ⟨c, List.mem_cons_of_mem _ h⟩
    · rename_i hk
      apply clOf_has
      rcases h with h | ⟨c, h⟩
      · rcases List.mem_cons.mp h with q | q
        · cases q; simp at hk
        · exact .inl q
      · exact .inr ⟨c, h⟩
theorem cellsFrom_append : ∀ (names : List (Str × NameKind)) (n : Nat) (acc : List (Str × Addr)), cellsFrom n names acc = cellsFrom n names [] ++ acc
  | [], _, _ => rfl
  | (x, k) :: r, n, acc => by
    unfold cellsFrom
    split
    · rw [cellsFrom_append r (n + 1) ((x, n) :: acc), cellsFrom_append r (n + 1) [(x, n)]]; simp
    · exact cellsFrom_append r n acc
theorem cellsFrom_mem {x : Str} {c : Addr} : ∀ {names : List (Str × NameKind)} {n : Nat} {acc : List (Str × Addr)}, (x, c) ∈ cellsFrom n names acc → (x, c) ∈ acc ∨ (x, NameKind.cell) ∈ names
  | [], _, _, h => .inl h
  | (m, k) :: r, n, acc, h => by
    unfold cellsFrom at h
    split at h
    · rename_i hk
      have hk' : k = .cell := by simpa using hk
      rcases cellsFrom_mem h with q | q
      · rcases List.mem_cons.mp q with q | q
        · cases q; exact .inr (by rw [hk']; exact List.mem_cons_self)
        · exact .inl q
      · exact .inr (List.mem_cons_of_mem _ q)
    · rcases cellsFrom_mem h with q | q
      · exact .inl q
      · exact .inr (List.mem_cons_of_mem _ q)
theorem cellsFrom_has {x : Str} : ∀ {names : List (Str × NameKind)} {n : Nat} {acc : List (Str × Addr)}, ((x, NameKind.cell) ∈ names ∨ ∃ c, (x, c) ∈ acc) → ∃ c, (x, c) ∈ cellsFrom n names acc
  | [], n, acc, h => by
    rcases h with h | ⟨c, h⟩
    · exact nomatch h
    · exact ⟨c, h⟩
  | (m, k) :: r, n, acc, h => by
    unfold cellsFrom
    split
    · apply cellsFrom_has
      rcases h with h | ⟨c, h⟩
      · rcases List.mem_cons.mp h with q | q
        · cases q; exact .inr ⟨_, List.mem_cons_self⟩
        · exact .inl q
      · exact .inr ⟨c, List.mem_cons_of_mem _ h⟩
    · rename_i hk
      apply cellsFrom_has
      rcases h with h | ⟨c, h⟩
      · rcases List.mem_cons.mp h with q | q
        · cases q; simp at hk
        · exact .inl q
      · exact .inr ⟨c, h⟩
theorem lookup_app {β : Type} {x : Str} : ∀ (l1 l2 : List (Str × β)), (l1 ++ l2).lookup x = (l1.lookup x).or (l2.lookup x)
  | [], _ => by simp
  | (n, k) :: r, l2 => by
    cases hx : x == n with
    | true => simp [List.lookup_cons, hx]
    | false => simp [List.lookup_cons, hx, lookup_app r l2]
theorem newEnv_comp {scope : Scope} {globals : Addr} {cl : List (Str × Addr)} {qual : Str} {env : Env} {Q : Env → Shared → Prop}
    (hQ : Q { scope, locals := s.heap.objs.size, globals, cells := cellsFrom (s.heap.objs.size + 1) scope.names cl, qual, func := none, code := env.code, frame := env.frame, builtins := env.builtins }
      { s with heap := pushCells (s.heap.push { cls := .type "dict", data := .dict #[] }) scope.names }) :
    wpAny M A (newFunctionEnv scope globals cl [] qual none .none (some env)) Q E s := by
  have z : (s.heap.push { cls := .type "dict", data := .dict #[] }).objs.size = s.heap.objs.size + 1 := Heap.size_push ..
  show wpAny M A (alloc { cls := .type "dict", data := .dict #[] } >>= _) Q E s
  apply wpAny_bind; apply wpAny_alloc; apply wpAny_bind
  refine wpAny_layCells _ (fun _ k _ => by by_cases y : k = NameKind.cell <;> simp [y]) _ _ _ _ ?_
  dsimp only
  rw [List.forIn_nil, z]
  exact wpAny_bind (wpAny_pure (wpAny_pure hQ))
theorem lookup_relabel {env : Env} {x : Str} : ∀ (names : List (Str × NameKind)),
    (names.map fun (n, k) => if (k == NameKind.free && env.scope.kind == .function && env.kindOf n == some .cell) then (n, NameKind.cell) else (n, k)).lookup x =
      (names.lookup x).map fun k => if (k == NameKind.free && env.scope.kind == .function && env.kindOf x == some .cell) = true then NameKind.cell else k
  | [] => by simp
  | (n, k) :: r => by
    have ih := lookup_relabel (env := env) (x := x) r
    cases hx : x == n with
    | true =>
      have e : x = n := by simpa using hx
      subst e
      rw [List.map_cons]
      dsimp only
      by_cases hc : (k == NameKind.free && env.scope.kind == .function && env.kindOf x == some .cell) = true
      · rw [if_pos hc, List.lookup_cons, List.lookup_cons, hx]; dsimp only [Option.map_some]; rw [if_pos hc]
      · rw [if_neg hc, List.lookup_cons, List.lookup_cons, hx]; dsimp only [Option.map_some]; rw [if_neg hc]
    | false =>
      rw [List.map_cons]
      dsimp only
      by_cases hc : (k == NameKind.free && env.scope.kind == .function && env.kindOf n == some .cell) = true
      · rw [if_pos hc, List.lookup_cons, List.lookup_cons, hx]; exact ih
      · rw [if_neg hc, List.lookup_cons, List.lookup_cons, hx]; exact ih
end

/-- the context of a comprehension's block: own names first, then the outer names (by their places) that it reads -/
def cxC (X : Cx) (own : List Str) (fr : List Nat) (scope : Scope) (s2 : Shared) (H2 : Hp) (fp : List Addr) : Cx where
  prog := X.prog
  w := X.w
  K := X.K
  mg := X.mg
  base := X.base
  A := X.A
  N := own ++ fr.map (fun i => X.N.getD i Str.empty)
  s₀ := s2
  H₀ := H2
  env := { scope := relabel scope X.env, locals := s2.heap.objs.size + 1, globals := X.env.globals, cells := cellsFrom (s2.heap.objs.size + 2) scope.names (clOf X.env scope.names []), qual := X.env.qual, func := none, code := X.env.code, frame := X.env.frame, builtins := X.env.builtins }
  outer := X.stack
  stack := X.stack
  ex := fp
  fn := fun x => scope.names.lookup x == some .cell
  calm := X.calm
  pn := []
  xe := fun _ _ => False
def cSt (own : List Str) (fr : List Nat) (σ : St) : St := List.replicate own.length none ++ fr.map fun i => (σ[i]?).join

/-- what is looked at of a comprehension's scope (closed) -/
def compOk (osc : List (Str × NameKind)) (N : List Str) (own : List Str) (fr : List Nat) (sc : Scope) : Bool :=
  decide (sc.kind = .function) && decide ((sc.names.map (·.1)).Nodup) &&
  sc.names.all (fun y => !(y.2 == .free) || (osc.lookup y.1 == some .cell || osc.lookup y.1 == some .free)) &&
  fr.all (fun i => decide (i < N.length) && (sc.names.lookup (N.getD i Str.empty) == some .free))
structure CompSc (X : Cx) (own : List Str) (fr : List Nat) (sc : Scope) : Prop where
  kind : sc.kind = .function
  nd : (sc.names.map (·.1)).Nodup
  fre : ∀ y ∈ sc.names, y.2 = .free → X.env.scope.names.lookup y.1 = some .cell ∨ X.env.scope.names.lookup y.1 = some .free
  frl : ∀ i ∈ fr, i < X.N.length
  frv : ∀ i ∈ fr, sc.names.lookup (X.N.getD i Str.empty) = some .free
theorem compSc {X : Cx} {own : List Str} {fr : List Nat} {sc : Scope} {osc : List (Str × NameKind)} {N : List Str} (h1 : X.env.scope.names = osc) (h2 : X.N = N) (h : compOk osc N own fr sc = true) : CompSc X own fr sc := by
  unfold compOk at h
  simp only [Bool.and_eq_true, decide_eq_true_eq, List.all_eq_true] at h
  obtain ⟨⟨⟨h3, h4⟩, h5⟩, h6⟩ := h
  refine ⟨h3, h4, fun y hy hf => ?_, fun i hi => ?_, fun i hi => ?_⟩
  · have := h5 y hy
    rw [h1]
    simpa [hf] using this
  · rw [h2]; exact (h6 i hi).1
  · rw [h2]; simpa using (h6 i hi).2
theorem lookup_of_mem_nd {x : Str} {k : NameKind} : ∀ {l : List (Str × NameKind)}, (l.map (·.1)).Nodup → (x, k) ∈ l → l.lookup x = some k
  | [], _, h => nomatch h
  | (n, q) :: r, nd, h => by
    rcases List.mem_cons.mp h with e | e
    · cases e; simp [List.lookup_cons]
    · have nd' := List.nodup_cons.mp nd
      have hne : (x == n) = false := by
        have : x ≠ n := fun z => nd'.1 (by rw [← z]; exact List.mem_map.mpr ⟨_, e, rfl⟩)
        simpa using this
      rw [List.lookup_cons, hne]
      exact lookup_of_mem_nd nd'.2 e

section
variable {X : Cx} {pins : List (Addr × Obj)} {σ : St} {H : Hp} {s : Shared} {own : List Str} {fr : List Nat} {sc : Scope} {fp : List Addr}
/-- the heap in which the block begins -/
abbrev hC (s : Shared) (sc : Scope) (h1 : Heap) : Heap := pushCells (h1.push { cls := .type "dict", data := .dict #[] }) sc.names
theorem inv_comp (I : Inv X pins σ H s) (S : CompSc X own fr sc) (hfp : ∀ b ∈ fp, FpOk X pins H b) {h1 : Heap} (hz : h1.objs.size = s.heap.objs.size + 1) (hk : ∀ b o, s.heap.get? b = some o → h1.get? b = some o) (hfl : ∀ b ∈ fp, @LT.lt Nat _ b s.heap.objs.size) :
    Inv (cxC X own fr sc s H fp) [] (cSt own fr σ) H { s with heap := hC s sc h1 } := by
  have kk : ∀ b o, s.heap.get? b = some o → (hC s sc h1).get? b = some o := fun b o e => pushCells_keeps _ _ b o (Heap.get?_push_of_some _ (hk b o e))
  have nsC : (hC s sc h1).Ns (s.heap.objs.size + 1) (fun _ => none) := by
    have q := (Heap.Ns.new h1 (.type "dict")).keeps (pushCells_keeps sc.names _)
    rw [hz] at q
    exact q
  have ok := cellsFrom_ok sc.names (h1.push { cls := .type "dict", data := .dict #[] }) (s.heap.objs.size + 2) [] ⟨fun _ _ hm => (nomatch hm), List.Pairwise.nil⟩ (by rw [Heap.size_push, hz]; exact Nat.le_refl _)
  rw [Heap.size_push, hz] at ok
  -- a free name's cell
  have fcell : ∀ y ∈ sc.names, y.2 = .free → ∃ c, X.env.cells.lookup y.1 = some c := fun y hy hf => I.ok.has y.1 (by
    rcases S.fre y hy hf with q | q
    · exact .inl q
    · exact .inr q)
  have old : ∀ x c, (clOf X.env sc.names []).lookup x = some c → X.env.cells.lookup x = some c ∧ (x, NameKind.free) ∈ sc.names := fun x c e => by
    rcases clOf_mem (PySem.mem_of_lookup e) with q | ⟨q, e2⟩
    · exact nomatch q
    · obtain ⟨c', e3⟩ := fcell _ q rfl
      have e3' : X.env.cells.lookup x = some c' := e3
      rw [e3'] at e2
      have : c = c' := e2
      subst this
      exact ⟨e3', q⟩
  have cs : ∀ x c, (cxC X own fr sc s H fp).env.cells.lookup x = some c → ((cellsFrom (s.heap.objs.size + 2) sc.names []).lookup x = some c ∧ @LE.le Nat _ (s.heap.objs.size + 2) c) ∨ (X.env.cells.lookup x = some c ∧ (x, NameKind.free) ∈ sc.names ∧ @LT.lt Nat _ c s.heap.objs.size) := fun x c e => by
    have e' : (cellsFrom (s.heap.objs.size + 2) sc.names (clOf X.env sc.names [])).lookup x = some c := e
    rw [cellsFrom_append, lookup_app] at e'
    cases q : (cellsFrom (s.heap.objs.size + 2) sc.names []).lookup x with
    | some c' =>
      rw [q] at e'
      have : c' = c := by simpa using e'
      subst this
      exact .inl ⟨rfl, (ok.empty x c' (PySem.mem_of_lookup q)).2⟩
    | none =>
      rw [q] at e'
      obtain ⟨e1, e2⟩ := old x c (by simpa using e')
      obtain ⟨v, hv⟩ := I.cell x c e1
      exact .inr ⟨e1, e2, hv.lt⟩
  have okY : (cxC X own fr sc s H fp).Ok := by
    refine ⟨I.ok.mod, S.kind, I.ok.glob, I.ok.blt, Nat.le_succ _, fun x y c h1 h2 => ?_, fun x hx => ?_, fun x c hf e => ?_, I.ok.hd, I.ok.frames, .inl rfl, fun b hb => ⟨?_, fun x c e => ?_⟩, fun b o e => I.bs b o e, Nat.le_trans I.ok.bsz I.sz, fun b o e hb => ?_, fun b hb z => ?_, I.stack, I.stkFree⟩
    · rcases cs x c h1 with ⟨q1, g1⟩ | ⟨q1, _, g1⟩
      · rcases cs y c h2 with ⟨q2, g2⟩ | ⟨q2, _, g2⟩
        · exact name_of_addr ok.apart (PySem.mem_of_lookup q1) (PySem.mem_of_lookup q2)
        · omega
      · rcases cs y c h2 with ⟨q2, g2⟩ | ⟨q2, _, g2⟩
        · omega
        · exact I.ok.inj x y c q1 q2
    · -- a cell or free name of the block has its cell
      have hx' : (relabel sc X.env).names.lookup x = some .cell ∨ (relabel sc X.env).names.lookup x = some .free := hx
      have hl : sc.names.lookup x = some .cell ∨ sc.names.lookup x = some .free := by
        unfold relabel at hx'
        rw [lookup_relabel] at hx'
        cases q : sc.names.lookup x with
        | none => rw [q] at hx'; simp at hx'
        | some k =>
          rw [q] at hx'
          cases k <;> simp at hx' ⊢
      have hm : ∃ c, (x, c) ∈ cellsFrom (s.heap.objs.size + 2) sc.names (clOf X.env sc.names []) := by
        rcases hl with hl | hl
        · exact cellsFrom_has (.inl (PySem.mem_of_lookup hl))
        · exact cellsFrom_has (.inr (clOf_has (.inl (PySem.mem_of_lookup hl))))
      obtain ⟨c, hm⟩ := hm
      exact lookup_mem_some hm
    · have hf' : sc.names.lookup x = some .cell := by simpa using (show (sc.names.lookup x == some .cell) = true from hf)
      show @LE.le Nat _ s.heap.objs.size c
      rcases cs x c e with ⟨_, g⟩ | ⟨_, q, _⟩
      · omega
      · rw [lookup_of_mem_nd S.nd q] at hf'; cases hf'
    · have := hfl b hb
      show @Ne Nat b (s.heap.objs.size + 1)
      omega
    · intro z
      subst z
      rcases cs x c e with ⟨_, g⟩ | ⟨q, _, _⟩
      · have := hfl c hb; omega
      · exact (hfp c hb).2.2.2.2.1 x c q rfl
    · rcases (hfp b hb).2.2.2.1 with z | z
      · exact I.ok.noex b o e z
      · have z1 : @LT.lt Nat _ b X.base.objs.size := Heap.lt_size e
        have z2 : X.base.objs.size ≤ X.s₀.heap.objs.size := I.ok.bsz
        have z3 : @LE.le Nat _ X.s₀.heap.objs.size b := z
        omega
    · rcases List.mem_cons.mp (I.stkSub b z) with e | e
      · exact (hfp b hb).2.1 e
      · exact (hfp b hb).2.2.1 e
  refine ⟨okY, rfl, I.bare, Un.kept kk, ⟨_, nsC, fun i x v h1 h2 h3 => ?_⟩, fun x c e => ?_, I.hok.fresh (Nat.le_succ _), fun x c e => ?_, fun p hp => absurd (show p ∈ ([] : List (Addr × Obj)) from hp) (by simp), I.hok.kept kk, ?_⟩
  · -- an outer name that is read
    have hi : own.length ≤ i := by
      by_cases hi : i < own.length
      · exfalso
        unfold cSt at h2
        rw [List.getElem?_append_left (by simpa using hi), List.getElem?_replicate] at h2
        split at h2 <;> cases h2
      · omega
    have h1' : (own ++ fr.map (fun i => X.N.getD i Str.empty))[i]? = some x := h1
    rw [List.getElem?_append_right hi, List.getElem?_map] at h1'
    unfold cSt at h2
    rw [List.getElem?_append_right (by simpa using hi), List.getElem?_map, List.length_replicate] at h2
    cases e : fr[i - own.length]? with
    | none => rw [e] at h1'; cases h1'
    | some k =>
      rw [e] at h1' h2
      have hkm : k ∈ fr := List.mem_of_getElem? e
      have ex : X.N.getD k Str.empty = x := by simpa using h1'
      have ev : (σ[k]?).join = some v := by simpa using h2
      have hkl := S.frl k hkm
      have eN : X.N[k]? = some x := by rw [← ex]; simp [List.getD, hkl]
      have eσ : σ[k]? = some (some v) := by
        cases q : σ[k]? with
        | none => rw [q] at ev; cases ev
        | some o => rw [q] at ev; cases o with
          | none => cases ev
          | some v' => have : v' = v := by simpa using ev
                       subst this; rfl
      have hfr := S.frv k hkm
      rw [ex] at hfr
      have hmem : (x, NameKind.free) ∈ sc.names := PySem.mem_of_lookup hfr
      have hkd := S.fre _ hmem rfl
      have hkd' : X.env.scope.names.lookup x = some .cell ∨ X.env.scope.names.lookup x = some .free := hkd
      obtain ⟨m, hn, hl⟩ := I.loc
      obtain ⟨u, r, l⟩ := hl k x v eN eσ (hkd'.elim (fun z => .inr (.inl z)) fun z => .inr (.inr z))
      refine ⟨u, r, ?_⟩
      rcases l with ⟨z, _⟩ | ⟨_, c, hc, hcell⟩
      · exfalso
        have z' : X.env.scope.names.lookup x = some .local := z
        rcases hkd' with q | q <;> (rw [q] at z'; cases z')
      · refine .inr ⟨?_, c, ?_, hcell.keeps kk⟩
        · show (relabel sc X.env).names.lookup x = some .cell ∨ (relabel sc X.env).names.lookup x = some .free
          unfold relabel
          rw [lookup_relabel, hfr]
          simp only [Option.map_some]
          split
          · exact .inl rfl
          · exact .inr rfl
        · show (cellsFrom (s.heap.objs.size + 2) sc.names (clOf X.env sc.names [])).lookup x = some c
          rw [cellsFrom_append, lookup_app]
          have h0 : (cellsFrom (s.heap.objs.size + 2) sc.names []).lookup x = none := by
            cases q : (cellsFrom (s.heap.objs.size + 2) sc.names []).lookup x with
            | none => rfl
            | some c' =>
              exfalso
              rcases cellsFrom_mem (PySem.mem_of_lookup q) with z | z
              · exact nomatch z
              · rw [lookup_of_mem_nd S.nd z] at hfr; cases hfr
          rw [h0]
          obtain ⟨c', hm'⟩ := clOf_has (env := X.env) (acc := []) (.inl hmem)
          obtain ⟨c2, e2⟩ := lookup_mem_some hm'
          obtain ⟨e3, _⟩ := old x c2 e2
          rw [hc] at e3
          rw [e2]
          simpa using e3.symm
  · rcases cs x c e with ⟨q, _⟩ | ⟨q, _, _⟩
    · exact ⟨_, (ok.empty x c (PySem.mem_of_lookup q)).1⟩
    · obtain ⟨v, hv⟩ := I.cell x c q
      exact ⟨v, hv.keeps kk⟩
  · rcases cs x c e with ⟨_, g⟩ | ⟨q, _, _⟩
    · exact I.hok.fresh (by omega)
    · exact I.freeC x c q
  · unfold cSt
    show _ = (own ++ fr.map (fun i => X.N.getD i Str.empty)).length
    simp
/-- behind the block: the outer state again, with the made list -/
theorem inv_back {own : List Str} {fr : List Nat} {sc : Scope} {fp : List Addr} {H1 : Hp} {s1 : Shared} {σ1 : St} {pins1 : List (Addr × Obj)} {h' : Heap} {o : HO} {D : Addr}
    (I : Inv X pins σ H s) (hfp : ∀ b ∈ fp, FpOk X pins H b) (I1 : Inv (cxC X own fr sc s H fp) pins1 σ1 H1 s1) (hD : @LE.le Nat _ s.heap.objs.size D) (hDn : H1 D = none) (hDC : D ≠ s.heap.objs.size + 1)
    (hs : Heap.SameBut (s.heap.objs.size + 1) s1.heap h') (hO : ObjOk X.prog X.w (upd H1 D o) h' D o) (tk : Nat) : Inv X pins σ (upd H1 D o) { s1 with heap := h', toks := tk } := by
  have u := I1.base
  have hCn : H1 (s.heap.objs.size + 1) = none := I1.free
  have hDo : ∀ b ob, s.heap.get? b = some ob → b ≠ D := fun b ob e z => by
    have := Heap.lt_size e
    have z' : @Eq Nat b D := z
    have q : @LT.lt Nat _ b s.heap.objs.size := this
    omega
  have hCo : ∀ b ob, s.heap.get? b = some ob → b ≠ s.heap.objs.size + 1 := fun b ob e z => by
    have q : @LT.lt Nat _ b s.heap.objs.size := Heap.lt_size e
    have z' : @Eq Nat b (s.heap.objs.size + 1) := z
    omega
  have hDs : H D = none := I.hok.fresh hD
  have cut : ∀ b ob, s.heap.get? b = some ob → ∀ oc, s1.heap.get? b = some oc → h'.get? b = some oc := fun b ob e oc q => (hs.2 b (hCo b ob e)).trans q
  refine Inv.call' (ch := fp) I (s' := { s1 with heap := h', toks := tk }) I1.os ?_ ?_ I1.bare fun b hb => ⟨(hfp b hb).2.2.2.1, (hfp b hb).2.1, (hfp b hb).2.2.2.2.1, (hfp b hb).2.2.2.2.2⟩
  · refine ⟨fun b ob e n hb hx => cut b ob e _ (u.keep b ob e n hb hx), fun b ob e n hb hx => ?_, fun b ob e n hx => ?_, fun b ob e hx => ?_, fun b xs e => ?_, fun b ob xs e => ?_, fun b ps e => ?_⟩
    · obtain ⟨sl, q⟩ := u.slot b ob e n hb hx
      exact ⟨sl, cut b ob e _ q⟩
    · rw [upd_ne (hDo b ob e)]; exact u.free b ob e n hx
    · obtain ⟨o', q⟩ := u.there b ob e hx
      exact ⟨o', cut b ob e _ q⟩
    · rw [upd_ne (ne_of_none e hDs)]; exact u.tups b xs e
    · rw [upd_ne (ne_of_none e hDs)]; exact u.frzs b ob xs e
    · rw [upd_ne (ne_of_none e hDs)]; exact u.tbls b ps e
  · intro b ob e
    by_cases hb : b = D
    · subst hb; rw [upd_same] at e; cases e; exact hO
    · rw [upd_ne hb] at e
      refine (I1.hok b ob e).stay (fun c q hc g => ?_) (fun c q => by rw [upd_ne (ne_of_none q hDn)]; exact q) fun c xs q => by rw [upd_ne (ne_of_none q hDn)]; exact q
      refine (hs.2 c ?_).trans g
      rcases hc with z | z
      · rw [z]; exact ne_of_none e hCn
      · exact ne_of_none z hCn
end

/-! ### the loop of a list comprehension -/
abbrev Nev : Value → Shared → Prop := fun _ _ => False
def oneTest (env : Env) (c : Expr) (b : Bool) : Sem (ForInStep Bool) :=
  if b = true then (isTrue c env (eval c env) >>= fun b' => pure (.yield b')) else pure (.yield b)
/-- the tests of a clause, the first that fails ends them -/
def allTests (env : Env) (cs : List Expr) : Sem Bool := forIn cs true (oneTest env)
/-- a block of one clause: what it adds, its target, its source, its tests, its names -/
structure Blk where
  add : Expr
  tgt : Expr
  src : Expr
  cs : List Expr
  sc : Scope
  pos : Pos
namespace Blk
variable (B : Blk)
abbrev expr : Expr := .ListComp B.add [⟨B.tgt, B.src, B.cs, 0⟩] B.sc B.pos
section
variable (prog : Program) (w : World) (A : Around) (env : Env) (it acc : Value)
/-- a program that raises nothing -/
abbrev Tame {α : Type} (e : Sem α) (Q : α → Shared → Prop) (s : Shared) : Prop := wpAny (model prog w) A e Q Nev s
/-- the added item laid behind the others -/
def Lays (J : Shared → Prop) : Bool → Shared → Prop
  | false, s => J s
  | true, s => Tame prog w A (eval B.add env) (fun x => Tame prog w A (call (.builtin "list.append") [acc, x]) fun _ => J) s
/-- an item taken -/
def Takes (J : Shared → Prop) (v : Value) : Shared → Prop :=
  Tame prog w A (letOwnedTupleGo B.tgt it v) fun _ => Tame prog w A (assign B.tgt env v) fun _ => Tame prog w A (allTests env B.cs) (B.Lays prog w A env acc J)
/-- what the source's next answer leads to -/
def Next (D J : Shared → Prop) : Option Value → Shared → Prop
  | none => D
  | some v => B.Takes prog w A env it acc J v
end
theorem loops {B : Blk} {prog : Program} {w : World} {A : Around} {env : Env} {it acc : Value} {R : Result → Shared → Prop} (G : Nat → Shared → Prop)
    (turn : ∀ k t, G k t → Tame prog w A (pyNext it) (B.Next prog w A env it acc (R (.ok .next)) fun u => ∃ j, j < k ∧ G j u) t)
    {k : Nat} {t : Shared} (g : G k t) : codeAny (model prog w) A (.compLoop B.expr 0 it acc env) R t := by
  have one : ∀ k t, G k t → Tame prog w A (compTurn B.expr 0 it acc env) (fun x t' => match x with | .done r => R (.ok r) t' | .again c => c = .compLoop B.expr 0 it acc env ∧ ∃ j, j < k ∧ G j t') t := by
    intro k t g
    rw [show B.expr = .ListComp B.add [⟨B.tgt, B.src, B.cs, 0⟩] B.sc B.pos from rfl, compTurn_list]
    apply wpAny_bind; apply wpAny_standAt; apply wpAny_bind
    refine thn (turn k t g) fun x t1 h1 => ?_
    match x, h1 with
    | none, h1 => exact wpAny_pure h1
    | some v, h1 =>
      apply wpAny_bind; refine thn h1 fun _ t2 h2 => ?_
      apply wpAny_bind; refine thn h2 fun _ t3 h3 => ?_
      apply wpAny_bind; refine thn h3 fun b t4 h4 => ?_
      match b, h4 with
      | false, h4 => exact wpAny_pure ⟨rfl, h4⟩
      | true, h4 =>
        apply wpAny_bind; apply wpAny_bind
        refine thn h4 fun y t5 h5 => ?_
        apply wpAny_bind
        refine thn h5 fun _ t6 h6 => ?_
        exact wpAny_pure (wpAny_pure ⟨rfl, h6⟩)
  exact codeAny_loop rfl G (fun k t g => wpAny_noted (wpAny_mono (one k t g) (fun _ _ q => q) fun _ _ f => f.elim)) k g
end Blk

/-- the tests of a clause -/
def PIfs (X : Cx) (ifs : List Expr) (t : TT) : Prop :=
  ∀ (pins : List (Addr × Obj)) (s : Shared) (σ : St) (H : Hp) (Q : Bool → Hp → Prop), Inv X pins σ H s → t σ H Q →
    wpAny (model X.prog X.w) X.A (allTests X.env ifs) (TP X pins σ Q) X.xe s
def tYes : TT := fun _ H Q => Q true H
theorem pifs_nil {X : Cx} : PIfs X [] tYes := fun _ _ _ H _ I h => wpAny_tests_nil ⟨H, I, h⟩
theorem pifs_one {X : Cx} {c : Expr} {t : TT} (h : PT X c t) : PIfs X [c] t := fun pins s σ H Q I q => wpAny_tests_one (h pins s σ H Q I q)

/-- a target sets the block's own names alone -/
def GK (n : Nat) (g : TG) : Prop := ∀ v σ H Q, g v σ H Q → g v σ H fun σ' H' => Q σ' H' ∧ σ'.length = σ.length ∧ ∀ j, n ≤ j → σ'[j]? = σ[j]?
def GKs (n : Nat) (g : TGs) : Prop := ∀ vs σ H Q, g vs σ H Q → g vs σ H fun σ' H' => Q σ' H' ∧ σ'.length = σ.length ∧ ∀ j, n ≤ j → σ'[j]? = σ[j]?
theorem gk_name {n i : Nat} (h : i < n) : GK n (gName i) := fun v σ H Q q => ⟨q, by simp, fun j hj => by rw [List.getElem?_set_ne (by omega)]⟩
theorem gks_nil {n : Nat} : GKs n gNil := fun vs σ H Q q => ⟨q.1, q.2, rfl, fun _ _ => rfl⟩
theorem gks_cons {n : Nat} {t : TG} {u : TGs} (m : ∀ v σ H Q Q', (∀ σ' H', Q σ' H' → Q' σ' H') → t v σ H Q → t v σ H Q') (mu : ∀ v σ H Q Q', (∀ σ' H', Q σ' H' → Q' σ' H') → u v σ H Q → u v σ H Q') (h1 : GK n t) (h2 : GKs n u) : GKs n (gCons t u) := fun vs σ H Q ⟨v, r, e, q⟩ =>
  ⟨v, r, e, m _ _ _ _ _ (fun σ' H' ⟨q', l1, k1⟩ => mu _ _ _ _ _ (fun σ2 H2 ⟨q2, l2, k2⟩ => ⟨q2, l2.trans l1, fun j hj => (k2 j hj).trans (k1 j hj)⟩) (h2 _ _ _ _ q')) (h1 _ _ _ _ q)⟩
theorem gk_tup {K : PySem.W.Frag} {n k : Nat} {t : TGs} (h : GKs n t) : GK n (gTup K k t) := fun v σ H Q ⟨a, xs, e, sq, l, q⟩ => ⟨a, xs, e, sq, l, h _ _ _ _ q⟩
theorem gn_mono {i : Nat} : ∀ v σ H Q Q', (∀ σ' H', Q σ' H' → Q' σ' H') → gName i v σ H Q → gName i v σ H Q' := fun _ _ _ _ _ m q => m _ _ q
theorem gnil_mono : ∀ v σ H Q Q', (∀ σ' H', Q σ' H' → Q' σ' H') → gNil v σ H Q → gNil v σ H Q' := fun _ _ _ _ _ m q => ⟨q.1, m _ _ q.2⟩
theorem gcons_mono {t : TG} {u : TGs} (m : ∀ v σ H Q Q', (∀ σ' H', Q σ' H' → Q' σ' H') → t v σ H Q → t v σ H Q') (mu : ∀ v σ H Q Q', (∀ σ' H', Q σ' H' → Q' σ' H') → u v σ H Q → u v σ H Q') : ∀ v σ H Q Q', (∀ σ' H', Q σ' H' → Q' σ' H') → gCons t u v σ H Q → gCons t u v σ H Q' :=
  fun _ _ _ _ _ mq ⟨v, r, e, q⟩ => ⟨v, r, e, m _ _ _ _ _ (fun _ _ q' => mu _ _ _ _ _ mq q') q⟩
theorem gk_two {K : PySem.W.Frag} {n k i j : Nat} (h1 : i < n) (h2 : j < n) : GK n (gTup K k (gCons (gName i) (gCons (gName j) gNil))) :=
  gk_tup (gks_cons gn_mono (gcons_mono gn_mono gnil_mono) (gk_name h1) (gks_cons gn_mono gnil_mono (gk_name h2) gks_nil))
/-- what is wanted of a list comprehension's loop: W by the turn, a measure, the items so far, the heap -/
def lcLoop (own : List Str) (fr : List Nat) (g : TG) (tt : TT) (te : TE) (σ : St) (Q : VK) (J : It) (H1 : Hp) : Prop :=
  ∃ W : Nat → Nat → List V → Hp → Prop, (∃ m, W 0 m [] H1) ∧ ∀ i m ys H2, W i m ys H2 → ys.length ≤ sizeLine ∧
    ((J.stop i H2 ∧ ∀ D, H2 D = none → Q (.ref D) (upd H2 D (.lst ys))) ∨
     (J.go i H2 ∧ ∀ x H3, J.yld i H2 x H3 → g x (cSt own fr σ) H3 fun σ4 H4 => tt σ4 H4 fun b H5 => if b = true then te σ4 H5 fun y H6 => ∃ m', m' < m ∧ W (i + 1) m' (ys ++ [y]) H6 else ∃ m', m' < m ∧ W (i + 1) m' ys H5))
def tLC (own : List Str) (fr : List Nat) (wi : TI) (g : TG) (tt : TT) (te : TE) : TE := fun σ H Q => wi σ H (lcLoop own fr g tt te σ Q)

section
variable {X : Cx} {own : List Str} {fr : List Nat} {sc : Scope} {tg iter elt : Expr} {ifs : List Expr} {pos : Pos} {wi : TI} {g : TG} {tt : TT} {te : TE}
theorem lc_core {pins : List (Addr × Obj)} {σ : St} {H2 : Hp} {s2 : Shared} {Q : VK} {it : Addr} {fp : List Addr} {tn : Nat → Heap → Prop} {J : It} {RR : Value → Addr → Result → Shared → Prop} {E : Value → Shared → Prop} (hc : X.calm = true) (S : CompSc X own fr sc) (gk : GK own.length g)
    (hg : ∀ s H fp, PG (cxC X own fr sc s H fp) tg g) (ht : ∀ s H fp, PIfs (cxC X own fr sc s H fp) ifs tt) (he : ∀ s H fp, PE (cxC X own fr sc s H fp) elt te)
    (I2 : Inv X pins σ H2 s2) (T : Turn X.prog X.w X.K tg J fp it tn) (st2 : tn 0 s2.heap) (f2 : ∀ b ∈ fp, FpOk X pins H2 b) (L : lcLoop own fr g tt te σ Q J H2)
    (hRR : ∀ D C s', (∃ m, s'.heap.Ns C m) → @LE.le Nat _ s2.heap.objs.size C → (∃ H', H' C = none ∧ Q (.ref D) H' ∧ ∀ h' tk, Heap.SameBut C s'.heap h' → Inv X pins σ H' { s' with heap := h', toks := tk }) → RR (.ref D) C (.ok .next) s') :
    wpAny (model X.prog X.w) X.A (newList []) (fun acc s₃ => wpAny (model X.prog X.w) X.A (newFunctionEnv sc X.env.globals (clOf X.env sc.names []) [] X.env.qual none .none (some X.env)) (fun cenv s₄ =>
      codeAny (model X.prog X.w) X.A (.compStart (.ListComp elt [⟨tg, iter, ifs, 0⟩] sc pos) 0 (.ref it) acc { cenv with scope := relabel sc X.env }) (RR acc cenv.locals) s₄) E s₃) E s2 := by
  obtain ⟨W, ⟨m0, w0⟩, turn⟩ := L
  refine wpAny_newObj_type (newEnv_comp ?_)
  dsimp only
  generalize hh1 : s2.heap.push { cls := .type "list", dict := none, data := .seq ([] : List Value).toArray } = h1
  have hz : h1.objs.size = s2.heap.objs.size + 1 := by rw [← hh1, Heap.size_push]
  have hk1 : ∀ b o, s2.heap.get? b = some o → h1.get? b = some o := fun b o e => by rw [← hh1]; exact Heap.get?_push_of_some _ e
  have hD1 : h1.get? s2.heap.objs.size = some { cls := .type "list", data := .seq ([] : List Value).toArray } := by rw [← hh1]; exact Heap.get?_push_size _ rfl
  have hfl : ∀ b ∈ fp, @LT.lt Nat _ b s2.heap.objs.size := fun b hb => by
    obtain ⟨o, e, _⟩ := T.obj _ _ st2 b hb
    exact Heap.lt_size e
  have I3 := inv_comp I2 S f2 hz hk1 hfl
  rw [hz]
  generalize hY : cxC X own fr sc s2 H2 fp = Y at I3
  have hD3 : (hC s2 sc h1).get? s2.heap.objs.size = some { cls := .type "list", data := .seq ([] : List Value).toArray } := pushCells_keeps _ _ _ _ (Heap.get?_push_of_some _ hD1)
  have st3 : tn 0 (hC s2 sc h1) := T.keep _ _ _ st2 fun b _ o e => pushCells_keeps _ _ _ _ (Heap.get?_push_of_some _ (hk1 b o e))
  have eP : Y.prog = X.prog := by rw [← hY]; rfl
  have eW : Y.w = X.w := by rw [← hY]; rfl
  have eK : Y.K = X.K := by rw [← hY]; rfl
  have eA : Y.A = X.A := by rw [← hY]; rfl
  have eX : Y.xe = Nev := by rw [← hY]; rfl
  have ecm : Y.calm = true := by rw [← hY]; exact hc
  have eEnv : ({ scope := relabel sc X.env, locals := s2.heap.objs.size + 1, globals := X.env.globals, cells := cellsFrom (s2.heap.objs.size + 1 + 1) sc.names (clOf X.env sc.names []), qual := X.env.qual, func := none, code := X.env.code, frame := X.env.frame, builtins := X.env.builtins } : Env) = Y.env := by rw [← hY]; rfl
  have eL : Y.env.locals = s2.heap.objs.size + 1 := by rw [← hY]; rfl
  rw [eEnv]
  have hg' : PG Y tg g := hY ▸ hg s2 H2 fp
  have ht' : PIfs Y ifs tt := hY ▸ ht s2 H2 fp
  have he' : PE Y elt te := hY ▸ he s2 H2 fp
  -- the iterator's and the list's places, in the block
  have dfp : s2.heap.objs.size ∉ fp := fun z => Nat.lt_irrefl _ (hfl _ z)
  have dC : s2.heap.objs.size ≠ s2.heap.objs.size + 1 := Nat.ne_of_lt (Nat.lt_succ_self _)
  have cellN : ∀ x c, Y.env.cells.lookup x = some c → c ≠ s2.heap.objs.size := fun x c e z => by
    obtain ⟨v, o, q, d⟩ := I3.cell x c e
    rw [z] at q
    have q' := hD3.symm.trans q
    cases q'
    cases d
  have hDfs : s2.heap.objs.size ∉ Y.fs := by
    rw [← hY]
    intro z
    rcases List.mem_cons.mp (I2.stkSub _ z) with e | e
    · exact Nat.lt_irrefl _ (by have := I2.lt; rw [← e] at this; exact this)
    · exact I2.nofs (Nat.le_refl _) e
  have hD0 : @LE.le Nat _ Y.s₀.heap.objs.size s2.heap.objs.size := by rw [← hY]; exact Nat.le_refl _
  have fpY : ∀ {H' : Hp} {pp : List (Addr × Obj)}, (∀ b ∈ fp, H' b = none) → (∀ p ∈ pp, p.1 ∉ fp) → ∀ b ∈ fp, FpOk Y pp H' b := fun {H' pp} hn hp b hb => by
    refine ⟨hn b hb, ?_, ?_, ?_, ?_, fun p hq z => ?_⟩
    · have := hfl b hb; rw [eL]; intro z; have z' : @Eq Nat b (s2.heap.objs.size + 1) := z; omega
    · rw [← hY]
      intro z
      rcases List.mem_cons.mp (I2.stkSub _ z) with e | e
      · exact (f2 b hb).2.1 e
      · exact (f2 b hb).2.2.1 e
    · exact .inl (by rw [← hY]; exact hb)
    · exact (I3.ok.exf b (by rw [← hY]; exact hb)).2
    · rcases List.mem_append.mp hq with q | q
      · have : p ∈ ([] : List (Addr × Obj)) := by rw [← hY] at q; exact q
        exact nomatch this
      · exact hp p q (z ▸ hb)
  have pinD : ∀ {H' : Hp} {s' : Shared} {σ' : St} {ob : Obj}, Inv Y [] σ' H' s' → H' s2.heap.objs.size = none → s'.heap.get? s2.heap.objs.size = some ob → (∀ v, ob.data ≠ .cell v) → Inv Y [(s2.heap.objs.size, ob)] σ' H' s' := fun {H' s' σ' ob} J0 hn e d =>
    J0.pins_of fun p hp => by
      have : p = (s2.heap.objs.size, ob) := by simpa using hp
      subst this
      exact ⟨e, hn, by rw [eL]; exact dC, hDfs, d⟩
  have fpp : ∀ {ob : Obj} (p : Addr × Obj), p ∈ [(s2.heap.objs.size, ob)] → p.1 ∉ fp := fun {ob} p hp => by
    have : p = (s2.heap.objs.size, ob) := by simpa using hp
    subst this; exact dfp
  have loop : codeAny (model X.prog X.w) X.A (.compLoop (.ListComp elt [⟨tg, iter, ifs, 0⟩] sc pos) 0 (.ref it) (.ref s2.heap.objs.size) Y.env) (RR (.ref s2.heap.objs.size) (s2.heap.objs.size + 1)) { s2 with heap := hC s2 sc h1 } := by
    refine Blk.loops (B := ⟨elt, tg, iter, ifs, sc, pos⟩) (fun n s' => ∃ i ys us k H', W i n ys H' ∧ Inv Y [] (cSt own fr σ) H' s' ∧ tn i s'.heap ∧ (∀ b ∈ fp, H' b = none) ∧ H' s2.heap.objs.size = none ∧ s'.heap.get? s2.heap.objs.size = some { cls := .type "list", data := .seq (List.toArray us) k } ∧ Vals ys us) ?_ (k := m0)
      ⟨0, [], [], _, H2, w0, I3, st3, fun b hb => (f2 b hb).1, I2.hok.fresh (Nat.le_refl _), hD3, .nil⟩
    rintro n s' ⟨i, ys, us, k, H', w', J0, st', fr', hDn, hDo, rv⟩
    obtain ⟨hyl, cases'⟩ := turn i n ys H' w'
    have J1 := pinD J0 hDn hDo (fun v z => nomatch z)
    rcases cases' with ⟨stop, fin⟩ | ⟨go, step⟩
    · have d0 := T.done Y eP eW eK ecm i _ s' _ H' Nev J1 (fpY fr' fpp) st' stop
      rw [eA] at d0
      refine wpAny_mono d0 (fun r s4 ⟨hr, J4⟩ => ?_) fun _ _ z => z
      subst hr
      have pD := (J4.pin (s2.heap.objs.size, _) (List.mem_append_right _ List.mem_cons_self)).1
      refine hRR _ _ s4 ?_ (Nat.le_succ _) ⟨upd H' s2.heap.objs.size (.lst ys), ?_, fin _ hDn, fun h' tk hs => ?_⟩
      · obtain ⟨m, hn, _⟩ := J4.loc
        rw [eL] at hn
        exact ⟨m, hn⟩
      · rw [upd_ne (Ne.symm dC), ← eL]; exact J4.free
      · subst hY
        have hO : ObjOk X.prog X.w (upd H' s2.heap.objs.size (.lst ys)) h' s2.heap.objs.size (.lst ys) := ⟨hyl, us, k, rv, (hs.2 _ dC).trans pD⟩
        exact inv_back I2 f2 J4 (Nat.le_refl _) hDn dC hs hO tk
    · have d0 := T.item Y eP eW eK ecm i _ s' _ H' Nev J1 (fpY fr' fpp) st' go
      rw [eA] at d0
      refine wpAny_mono d0 (fun r s4 ⟨u, hr, h4⟩ => ?_) fun _ _ z => z
      subst hr
      refine wpAny_mono h4 (fun _ s5 ⟨x, H5, J5, r5, y5, st5, fr5⟩ => ?_) fun _ _ z => z
      have J5' := J5.pinned (fpY fr5 fpp) (T.obj _ _ st5)
      have s1 := hg' _ s5 _ H5 x u _ J5' r5 (gk _ _ _ _ (step x H5 y5))
      rw [eP, eW, eA, eX] at s1
      refine wpAny_mono s1 (fun _ s6 ⟨σ6, H6, J6, q6, kp6⟩ => ?_) fun _ _ z => z
      have s2' := ht' _ s6 σ6 H6 _ J6 q6
      rw [eP, eW, eA, eX] at s2'
      refine wpAny_mono s2' (fun ok s7 ⟨H7, J7, q7⟩ => ?_) fun _ _ z => z
      -- the turn's end
      have low : ∀ {H8 : Hp} {s8 : Shared}, Inv Y ([(s2.heap.objs.size, ({ cls := .type "list", data := .seq (List.toArray us) k } : Obj))] ++ pinsAt fp s5.heap) σ6 H8 s8 →
          Inv Y (pinsAt fp s5.heap) σ6 H8 s8 ∧ H8 s2.heap.objs.size = none ∧ s8.heap.get? s2.heap.objs.size = some { cls := .type "list", data := .seq (List.toArray us) k } ∧ (∀ b ∈ fp, H8 b = none) ∧ tn (i + 1) s8.heap := fun {H8 s8} J8 => by
        have p8 := J8.pin (s2.heap.objs.size, _) (List.mem_append_right _ (List.mem_append_left _ List.mem_cons_self))
        refine ⟨J8.pins_of fun p hp => J8.pin p (List.mem_append_right _ (List.mem_append_right _ hp)), p8.2.1, p8.1, fun b hb => ?_, T.keep _ _ _ st5 fun b hb o e => (J8.pin (b, o) (List.mem_append_right _ (List.mem_append_right _ (mem_pinsAt hb e)))).1⟩
        obtain ⟨o, e, d⟩ := T.obj _ _ st5 b hb
        exact (J8.pin (b, o) (List.mem_append_right _ (List.mem_append_right _ (mem_pinsAt hb e)))).2.1
      have weak : ∀ {H8 : Hp} {s8 : Shared} {pp : List (Addr × Obj)}, Inv Y pp σ6 H8 s8 → Inv Y [] (cSt own fr σ) H8 s8 := fun {H8 s8 pp} J8 => (J8.weak kp6.1.symm (fun j v e => by
        by_cases hj : j < own.length
        · exfalso
          unfold cSt at e
          rw [List.getElem?_append_left (by simpa using hj), List.getElem?_replicate] at e
          split at e <;> cases e
        · rw [kp6.2 j (Nat.not_lt.mp hj)]; exact e)).pins_of fun p hp => nomatch hp
      cases ok with
      | false =>
        obtain ⟨m', hm, w7⟩ := (show ∃ m', m' < n ∧ W (i + 1) m' ys H7 by simpa using q7)
        obtain ⟨_, l1, l2, l3, l4⟩ := low J7
        exact ⟨m', hm, i + 1, ys, us, k, H7, w7, weak J7, l4, l3, l1, l2, rv⟩
      | true =>
        have q7' : te σ6 H7 fun y H6 => ∃ m', m' < n ∧ W (i + 1) m' (ys ++ [y]) H6 := by simpa using q7
        have s3 := he' _ s7 σ6 H7 _ J7 q7'
        rw [eP, eW, eA, eX] at s3
        show wpAny _ _ _ _ _ _
        refine wpAny_mono s3 (fun xv s8 ⟨y, H8, J8, r8, m', hm, w8⟩ => ?_) fun _ _ z => z
        obtain ⟨J8a, l1, l2, l3, l4⟩ := low J8
        refine append_at (hsz := by rw [List.size_toArray, ← rv.length]; exact hyl) l2 fun h' hs' hD' => ?_
        have J9 : Inv Y [] (cSt own fr σ) H8 { s8 with heap := h' } := by
          refine (weak J8a).turned (t' := s8.toks) (it := s2.heap.objs.size) (fun b o hb e => (hs'.2 b hb).trans e) l1 (by rw [eL]; exact dC) (.inr hD0) cellN fun p hp => ?_
          have : p ∈ ([] : List (Addr × Obj)) := by rw [← hY] at hp; exact hp
          exact nomatch this
        refine ⟨m', hm, i + 1, ys ++ [y], us ++ [xv], k + 1, H8, w8, J9, ?_, l3, l1, ?_, rv.append (.cons r8 .nil)⟩
        · exact T.keep _ _ _ l4 fun b hb o e => (hs'.2 b (fun z => dfp (z ▸ hb))).trans e
        · rw [hD']; simp
  exact codeAny_compStart_list loop (T.self X.A 0 _ _ _ st3 loop)
/-- [elt for tg in iter if ..] -/
theorem pe_lc (own : List Str) (fr : List Nat) (hc : X.calm = true) (S : CompSc X own fr sc) (gk : GK own.length g) (hi : PI X tg iter wi)
    (hg : ∀ s H fp, PG (cxC X own fr sc s H fp) tg g) (ht : ∀ s H fp, PIfs (cxC X own fr sc s H fp) ifs tt) (he : ∀ s H fp, PE (cxC X own fr sc s H fp) elt te)
    (hs : ∀ x, foldedSetIterable iter X.env x = pure x := by intro _; rfl) : PE X (.ListComp elt [⟨tg, iter, ifs, 0⟩] sc pos) (tLC own fr wi g tt te) := by
  intro pins s σ H Q I h
  rw [eval_ListComp]
  have hclos : closureFor sc X.env = pure (clOf X.env sc.names []) := closureFor_of fun y hy hf => I.ok.has y.1 (by
    rcases S.fre y hy hf with q | q
    · exact .inl q
    · exact .inr q)
  refine wpAny_comprehension_free (use := none) rfl hs hclos S.kind (fun y hy hl => lookup_of_mem_nd S.nd (by rw [← hl]; exact hy)) ?_
  refine thn (hi pins s σ H _ I h) fun v s1 h1 => thn h1 fun itv s2 h2 => ?_
  obtain ⟨it, fp, tn, J, H2, e, I2, T, st2, f2, L⟩ := h2
  subst e
  exact lc_core hc S gk hg ht he I2 T st2 f2 L fun D C s' ⟨m, hn⟩ _ ⟨H', _, q, hi⟩ => ⟨m, hn, fun h' hs' => ⟨.ref D, H', hi h' s'.toks hs', rfl, q⟩⟩
end
/-- a block's value stored by a name of this frame: behind the block its frame may still change -/
theorem stored_use {X : Cx} {pins : List (Addr × Obj)} {σ : St} {H2 : Hp} {s2 s' : Shared} {i : Nat} {x : Str} {pos' : Pos} {D : Addr} {C : Addr} {R : St → Hp → Prop} {E : Value → Shared → Prop} (I2 : Inv X pins σ H2 s2) (hN : X.N.Nodup) (hi : X.N[i]? = some x) (hx : X.env.scope.names.lookup x = some .local)
    (ns : ∃ m, s'.heap.Ns C m) (le : @LE.le Nat _ s2.heap.objs.size C) (h : ∃ H', H' C = none ∧ R (σ.set i (some (.ref D))) H' ∧ ∀ h' tk, Heap.SameBut C s'.heap h' → Inv X pins σ H' { s' with heap := h', toks := tk }) :
    wpAny (model X.prog X.w) X.A (assign (.Name x pos') X.env (.ref D)) (fun _ s'' => ∃ m, s''.heap.Ns C m ∧ ∀ h', Heap.SameBut C s''.heap h' → ∃ σ1 H1, Inv X pins σ1 H1 { s'' with heap := h' } ∧ R σ1 H1) E s' := by
  obtain ⟨H', hC, q, hv⟩ := h
  have I' : Inv X pins σ H' s' := hv s'.heap s'.toks (Heap.SameBut.refl _ _)
  have lt : ∀ {b : Addr} {o : Obj}, s2.heap.get? b = some o → b ≠ C := fun {b o} e z => by
    have l1 : @LT.lt Nat _ b s2.heap.objs.size := Heap.lt_size e
    have z' : @Eq Nat b C := z
    omega
  have hLC : X.env.locals ≠ C := by
    obtain ⟨m, ⟨o, _, _, e, _⟩, _⟩ := I2.loc
    exact lt e
  have hcell : ∀ y c, X.env.cells.lookup y = some c → c ≠ C := fun y c e => by
    obtain ⟨v, o, e1, _⟩ := I2.cell y c e
    exact lt e1
  refine wpAny_assign_Name (store_ok2 I' hN hi (.inl hx) (show RelV (.ref D) (.ref D) from rfl) (fun s3 I3 ⟨a, hs, ha⟩ => ?_) (.inr hx))
  have aC : a ≠ C := by
    rcases ha with e | e
    · rw [e]; exact hLC
    · exact hcell _ _ e
  obtain ⟨m, hn⟩ := ns
  refine ⟨m, hn.sameBut hs (Ne.symm aC), fun h' hs' => ⟨_, H', ?_, q⟩⟩
  refine I3.turned (t' := s3.toks) (it := C) (fun b o hb e => (hs'.2 b hb).trans e) hC (Ne.symm hLC) (.inr ?_) hcell fun p hp => ?_
  · have := I2.sz
    exact Nat.le_trans this le
  · exact lt (I2.pin p hp).1
/-- name = [elt for tg in iter if ..], the name one of this frame -/
theorem ps_setL {X : Cx} {sc : Scope} {tg iter elt : Expr} {ifs : List Expr} {pos spos pos' : Pos} {wi : TI} {g : TG} {tt : TT} {te : TE} {i : Nat} {x : Str} (own : List Str) (fr : List Nat) (hN : X.N.Nodup) (hix : X.N[i]? = some x) (hx : X.env.scope.names.lookup x = some .local) (hc : X.calm = true) (S : CompSc X own fr sc) (gk : GK own.length g) (hi : PI X tg iter wi)
    (hg : ∀ s H fp, PG (cxC X own fr sc s H fp) tg g) (ht : ∀ s H fp, PIfs (cxC X own fr sc s H fp) ifs tt) (he : ∀ s H fp, PE (cxC X own fr sc s H fp) elt te)
    (hsw : swapsWith (.ListComp elt [⟨tg, iter, ifs, 0⟩] sc pos) (some (.Name x pos')) spos.line X.env = pure true := by rfl)
    (hs : ∀ x, foldedSetIterable iter X.env x = pure x := by intro _; rfl) : PS X (.Assign [.Name x pos'] (.ListComp elt [⟨tg, iter, ifs, 0⟩] sc pos) spos) (tAsg (tLC own fr wi g tt te) (gName i)) := by
  intro pins s σ H D I h
  rw [exec_Assign_Name_used _ _ _ _ hsw]
  apply wpAny_bind; apply wpAny_standAt; apply wpAny_bind
  show wpAny _ _ (comprehension (.ListComp elt [⟨tg, iter, ifs, 0⟩] sc pos) sc X.env _ (newList []) false (eval iter X.env) (some (assign (.Name x pos') X.env)) >>= _) _ _ s
  apply wpAny_bind
  have hclos : closureFor sc X.env = pure (clOf X.env sc.names []) := closureFor_of fun y hy hf => I.ok.has y.1 (by
    rcases S.fre y hy hf with q | q
    · exact .inl q
    · exact .inr q)
  refine wpAny_mono (wpAny_comprehension_free (use := some (assign (.Name x pos') X.env)) (Q := fun _ s' => SP X pins D .next s') rfl hs hclos S.kind (fun y hy hl => lookup_of_mem_nd S.nd (by rw [← hl]; exact hy)) ?_) (fun _ s' q => wpAny_pure (wpAny_pure q)) fun _ _ z => z
  refine thn (hi pins s σ H _ I h) fun v s1 h1 => thn h1 fun itv s2 h2 => ?_
  obtain ⟨it, fp, tn, J, H2, e, I2, T, st2, f2, L⟩ := h2
  subst e
  exact lc_core hc S gk hg ht he I2 T st2 f2 L fun D0 C s' ns le h => stored_use (R := D.nx) I2 hN hix hx ns le h
end L2

set_option Elab.async false
set_option linter.all false
set_option maxRecDepth 100000
set_option maxHeartbeats 4000000
namespace L2
open PySem PySem.Spec PyProof.Rows
/-! ### a text, sign by sign -/
def Its (x : Str) : It := ⟨fun i _ => i < x.cps.size, fun i H v H' => H' = H ∧ ∃ c, x.cps[i]? = some c ∧ v = .str ⟨#[c]⟩, fun i _ => i = x.cps.size⟩
theorem go_str {M : Model} {A : Around} {E : Value → Shared → Prop} {s : Shared} {tg : Expr} {it : Addr} {x : Str} {t : Tok} {Q : Unit → Shared → Prop} (hQ : Q () s) : wpAny M A (letOwnedTupleGo tg (.ref it) (.str x t)) Q E s := by
  unfold letOwnedTupleGo
  cases tg <;> exact wpAny_pure hQ
theorem turn_str {P : Program} {w : World} {K : PySem.W.Frag} {tg : Expr} {it : Addr} {x : Str} {t : Tok} {ty : String} (W : ∀ A : Around, A.handled = none → Walks P w A it [it] [it] x.cps.size (SignAt x) (fun i h => h.IsStrIter it ty x t i))
    (hself : ∀ (A : Around) (i : Nat) (s : Shared) (Q : Value → Shared → Prop) (E : Value → Shared → Prop), s.heap.IsStrIter it ty x t i → Q (.ref it) s → wpAny (model P w) A (pyIter (.ref it)) Q E s) :
    Turn P w K tg (Its x) [it] it (fun i h => h.IsStrIter it ty x t i) where
  mem := by simp
  obj := fun i h st b hb => by
    have e : b = it := by simpa using hb
    subst e
    obtain ⟨o, e, c, d⟩ := st
    exact ⟨o, e, fun v z => by rw [d] at z; cases z⟩
  keep := fun i h h' st k => by
    obtain ⟨o, e, r⟩ := st
    exact ⟨o, k it (by simp) o e, r⟩
  item := by
    intro X hP hw hK hc i pins s σ H E I hf st hg
    subst hP hw hK
    obtain ⟨f0, f1, f2, f3, f4, f5⟩ := hf it (by simp)
    refine (W X.A (I.ok.hd hc)).item i s _ _ hg st fun v h' tk hv st' kk => ?_
    obtain ⟨c, u, hx, rfl⟩ := hv
    have I1 : Inv X pins σ H { s with heap := h', toks := tk } := I.turned (fun b o hb e => kk b o (by simpa using hb) e) f0 f1 f3 f4 f5
    exact ⟨_, rfl, go_str ⟨.str ⟨#[c]⟩, H, I1, ⟨u, rfl⟩, ⟨rfl, c, hx, rfl⟩, st', fun b hb => (hf b hb).1⟩⟩
  done := by
    intro X hP hw hK hc i pins s σ H E I hf st hg
    subst hP hw hK
    obtain ⟨f0, f1, f2, f3, f4, f5⟩ := hf it (by simp)
    have hg' : i = x.cps.size := hg
    subst hg'
    exact (W X.A (I.ok.hd hc)).done s _ _ st fun h' tk kk => ⟨rfl, I.turned (fun b o hb e => kk b o (by simpa using hb) e) f0 f1 f3 f4 f5⟩
  self := hself
section
variable {X : Cx} {tg : Expr}
def iStr (tl : TE) : TI := fun σ H R => tl σ H fun x H1 => ∃ z, x = .str z ∧ R (Its z) H1
theorem pi_str {l : Expr} {tl : TE} (hl : PE X l tl) : PI X tg l (iStr tl) := by
  intro pins s σ H R I h
  refine thn (hl pins s σ H _ I h) fun v s1 ⟨x, H1, I1, r1, q1⟩ => ?_
  obtain ⟨z, rfl, q⟩ := q1
  obtain ⟨t, rfl⟩ := r1
  have fin : ∀ ty : String, (∀ A : Around, A.handled = none → Walks X.prog X.w A s1.heap.objs.size [s1.heap.objs.size] [s1.heap.objs.size] z.cps.size (SignAt z) (fun i h => h.IsStrIter s1.heap.objs.size ty z t i)) →
      (∀ (A : Around) (i : Nat) (s : Shared) (Q : Value → Shared → Prop) (E : Value → Shared → Prop), s.heap.IsStrIter s1.heap.objs.size ty z t i → Q (.ref s1.heap.objs.size) s → wpAny (model X.prog X.w) A (pyIter (.ref s1.heap.objs.size)) Q E s) →
      PIE X pins σ tg R (.ref s1.heap.objs.size) { s1 with heap := s1.heap.push { cls := .type ty, data := .fields #[.str z t, .int 0 0] } } := fun ty W hself => by
    refine ⟨s1.heap.objs.size, [s1.heap.objs.size], _, _, H1, rfl, I1.kept (t' := s1.toks) fun b o e => Heap.get?_push_of_some _ e, turn_str W hself, ⟨_, Heap.get?_push_size _ rfl, rfl, rfl⟩, fun b hb => ?_, q⟩
    have e : b = s1.heap.objs.size := by simpa using hb
    subst e
    exact I1.fpOk (Nat.le_refl _) (I1.hok.fresh (Nat.le_refl _))
  cases ha : z.cps.all (· < 128)
  · exact wpAny_pyIter_wide ha (fin _ (fun A hA => Walks.strWide hA _ z t) fun A i s Q E st q => wpAny_pyIter_striter_wide st q)
  · exact wpAny_pyIter_ascii ha (fin _ (fun A hA => Walks.strAscii hA _ z t) fun A i s Q E st q => wpAny_pyIter_striter_ascii st q)

/-! ### built-ins -/
theorem vals_bl_get : ∀ {bs : List Bool} {us : List Value} {i : Nat} {u : Value}, Vals (bs.map V.bl) us → us[i]? = some u → ∃ b, bs[i]? = some b ∧ u = .bool b
  | [], _, i, u, .nil, e => by simp at e
  | b :: bs, _, 0, u, .cons r _, e => by simp at e; subst e; exact ⟨b, rfl, r⟩
  | b :: bs, _, i + 1, u, .cons _ t, e => by
    obtain ⟨b', h1, h2⟩ := vals_bl_get (i := i) (u := u) t (by simpa using e)
    exact ⟨b', by simpa using h1, h2⟩
theorem range_all (bs : List Bool) : ((List.range bs.length).all fun i => bs.getD i false) = bs.all id := by
  induction bs with
  | nil => rfl
  | cons b bs ih =>
    rw [List.length_cons, List.range_succ_eq_map, List.all_cons, List.all_map, List.all_cons]
    have e : ((fun i => (b :: bs).getD i false) ∘ Nat.succ) = fun i => bs.getD i false := by funext i; simp
    rw [e, ih]; simp
theorem call_all (hc : X.calm = true) : CallR X (.builtin "all") (fun xs H Q => ∃ (p : Addr) (bs : List Bool), xs = [.ref p] ∧ SqL X.K H p (bs.map V.bl) ∧ Q (.bl (bs.all id)) H) := by
  intro pins s σ H xs us Q I r h
  obtain ⟨p, bs, rfl, hq, q⟩ := h
  obtain ⟨u, rfl, rx⟩ := vals1 r
  cases rx
  obtain ⟨its, rv, pl, hz⟩ := I.list hq
  have hlt : p < s.heap.objs.size := by obtain ⟨o, n, e, _⟩ := pl; exact Heap.lt_size e
  have hlen : its.length = bs.length := by rw [← rv.length, List.length_map]
  refine call_all_walk (wpAny_pyIter_list pl.isList ?_)
  refine ⟨s.heap.objs.size, _, _, its.toArray.size, _, _, fun i => bs.getD i false, rfl, Walks.list (A := X.A.in1) (I.ok.hd hc) s.heap.objs.size p (Nat.ne_of_lt hlt) its.toArray, ⟨⟨_, Heap.get?_push_size _ rfl, rfl, rfl⟩, pl.isList.push _⟩, fun i v s' Q' E' hP hQ => ?_, fun h' tk hk => ?_⟩
  · obtain ⟨b, h1, rfl⟩ := vals_bl_get rv (by simpa using hP)
    refine wpAny_truthy_bool ?_
    have e : bs.getD i false = b := by rw [List.getD, h1]; rfl
    rw [← e]; exact hQ
  · rw [List.size_toArray, hlen, range_all]
    refine ⟨.bl _, H, ?_, rfl, q⟩
    have J : Inv X pins σ H { s with heap := h', toks := tk } := I.kept fun b o e => hk b o (fun z => absurd (Heap.lt_size e) (by rw [List.mem_singleton.mp z]; exact Nat.lt_irrefl _)) (Heap.get?_push_of_some _ e)
    exact J
theorem call_isinst {T : String} : CallR X (.builtin "isinstance") (fun xs H Q => ∃ x t b, xs = [x, .ty T] ∧ TyOf X.K H x t ∧ PySem.W.kitOne X.K t (.type T) = some b ∧ Q (.bl b) H) := by
  intro pins s σ H xs us Q I r h
  obtain ⟨x, t, b, rfl, ty, e, q⟩ := h
  obtain ⟨u, v, rfl, ru, rv⟩ := vals2 r
  cases rv
  exact isinst_ok I ru ty e fun tk => ⟨.bl b, H, I.tok _, rfl, q⟩
theorem strs_of : ∀ {ys : List Str} {us : List Value}, Vals (ys.map V.str) us → StrsAre us ys
  | [], _, .nil => .nil
  | y :: ys, _, .cons r t => by obtain ⟨k, rfl⟩ := (show ∃ k, _ = Value.str y k from r); exact .cons y k (strs_of t)
theorem mt_join : MtR X "str.join" (fun x vs H Q => ∃ (sep : Str) (p : Addr) (ys : List Str), x = .str sep ∧ vs = [.ref p] ∧ SqL X.K H p (ys.map V.str) ∧ (ys.map (·.length)).sum + ys.length * sep.length ≤ 16777216 ∧ Q (.str (Txt.join sep ys)) H) := by
  intro pins s σ H x xs v us Q I rx r h
  obtain ⟨sep, p, ys, rfl, rfl, hq, hl, q⟩ := h
  obtain ⟨u, rfl, ru⟩ := vals1 r
  cases ru
  obtain ⟨t, rfl⟩ := rx
  obtain ⟨its, rv, pl, hz⟩ := I.list hq
  exact join_list pl.isList (by simpa using strs_of rv) hl fun t' k => ⟨.str _, H, I.tok _, ⟨t', rfl⟩, q⟩
theorem op_le_str : OpR X (compareOp .LtE) (fun x y H Q => ∃ i j, x = .str i ∧ y = .str j ∧ Q (.bl (!decide (j.cps.toList < i.cps.toList))) H) := by
  intro pins s σ H x y v u Q I rx ry h
  obtain ⟨i, j, rfl, rfl, q⟩ := h
  obtain ⟨t, rfl⟩ := rx
  obtain ⟨t', rfl⟩ := ry
  exact PySem.P.le_str ⟨.bl _, H, I, rfl, by simpa using q⟩
end

/-! ### the forms one uses of a list comprehension -/
theorem lc_range {own : List Str} {fr : List Nat} {g : TG} {tt : TT} {te : TE} {σ : St} {Q : VK} {lo : Int} {n : Nat} {H : Hp} (Pv : Nat → List V → Hp → Prop) (h0 : Pv 0 [] H) (hlen : ∀ i ys H, i ≤ n → Pv i ys H → ys.length ≤ sizeLine)
    (hs : ∀ i ys H (R : List V → Hp → Prop), i < n → Pv i ys H → (∀ ys' H', Pv (i + 1) ys' H' → R ys' H') → g (.int (lo + i)) (cSt own fr σ) H fun σ4 H4 => tt σ4 H4 fun b H5 => if b = true then te σ4 H5 fun y H6 => R (ys ++ [y]) H6 else R ys H5)
    (hd : ∀ ys H, Pv n ys H → ∀ D, H D = none → Q (.ref D) (upd H D (.lst ys))) : lcLoop own fr g tt te σ Q (Itr lo n) H := by
  refine ⟨fun i m ys H => m = n - i ∧ i ≤ n ∧ Pv i ys H, ⟨n, rfl, Nat.zero_le _, h0⟩, ?_⟩
  rintro i m ys H2 ⟨rfl, hi, p⟩
  refine ⟨hlen i ys H2 hi p, ?_⟩
  by_cases h : i < n
  · refine .inr ⟨h, fun x H3 hy => ?_⟩
    obtain ⟨rfl, rfl⟩ := hy
    exact hs i ys _ (fun ys' H' => ∃ m', m' < n - i ∧ (m' = n - (i + 1) ∧ i + 1 ≤ n ∧ Pv (i + 1) ys' H')) h p fun ys' H' q => ⟨n - (i + 1), by omega, rfl, h, q⟩
  · have e : i = n := by omega
    subst e
    exact .inl ⟨Nat.le_refl _, hd ys H2 p⟩
theorem lc_list {K : PySem.W.Frag} {a : Addr} {xs : List V} {own : List Str} {fr : List Nat} {g : TG} {tt : TT} {te : TE} {σ : St} {Q : VK} {H : Hp} (Pv : Nat → List V → Hp → Prop) (h0 : Pv 0 [] H) (hlen : ∀ i ys H, i ≤ xs.length → Pv i ys H → ys.length ≤ sizeLine)
    (hl : ∀ i ys H, i ≤ xs.length → Pv i ys H → SqL K H a xs)
    (hs : ∀ i x ys H (R : List V → Hp → Prop), xs[i]? = some x → Pv i ys H → (∀ ys' H', Pv (i + 1) ys' H' → R ys' H') → g x (cSt own fr σ) H fun σ4 H4 => tt σ4 H4 fun b H5 => if b = true then te σ4 H5 fun y H6 => R (ys ++ [y]) H6 else R ys H5)
    (hd : ∀ ys H, Pv xs.length ys H → ∀ D, H D = none → Q (.ref D) (upd H D (.lst ys))) : lcLoop own fr g tt te σ Q (Itl K a) H := by
  refine ⟨fun i m ys H => m = xs.length - i ∧ i ≤ xs.length ∧ Pv i ys H, ⟨xs.length, rfl, Nat.zero_le _, h0⟩, ?_⟩
  rintro i m ys H2 ⟨rfl, hi, p⟩
  refine ⟨hlen i ys H2 hi p, ?_⟩
  have q := hl i ys H2 hi p
  by_cases h : i < xs.length
  · refine .inr ⟨⟨xs, xs[i], q, by simp [h]⟩, fun x H3 hy => ?_⟩
    obtain ⟨rfl, hy⟩ := hy
    exact hs i x ys _ (fun ys' H' => ∃ m', m' < xs.length - i ∧ (m' = xs.length - (i + 1) ∧ i + 1 ≤ xs.length ∧ Pv (i + 1) ys' H')) (hy xs q) p fun ys' H' q => ⟨xs.length - (i + 1), by omega, rfl, h, q⟩
  · have e : i = xs.length := by omega
    subst e
    exact .inl ⟨⟨xs, q, Nat.le_refl _⟩, hd ys H2 p⟩
end L2

set_option Elab.async false
set_option linter.all false
set_option maxRecDepth 100000
set_option maxHeartbeats 4000000
namespace L2
open PySem PySem.Spec PyProof.Rows

theorem ObjOk.there {P : Program} {w : World} {H : Hp} {h : Heap} {a : Addr} {o : HO} (x : ObjOk P w H h a o) : ∃ u, h.get? a = some u := by
  cases o with
  | lst xs => obtain ⟨_, _, _, _, e⟩ := x; exact ⟨_, e⟩
  | tup xs => obtain ⟨_, _, _, o, e, _⟩ := x; exact ⟨_, e⟩
  | dK kvs => obtain ⟨_, _, _, _, o, _, _, e, _⟩ := x; exact ⟨_, e⟩
  | dT kvs => obtain ⟨_, _, _, _, o, _, _, e, _⟩ := x; exact ⟨_, e⟩
  | set S n => obtain ⟨o, _, _, _, e, _⟩ := x; exact ⟨_, e⟩
  | ins C dx fs => obtain ⟨_, _, _, e, _⟩ := x; exact ⟨_, e⟩
  | own y => exact x
  | xd fs => obtain ⟨_, ⟨_, _, _, e, _⟩, _⟩ := x; exact ⟨_, e⟩
  | rng lo hi => obtain ⟨_, _, _, e⟩ := x; exact ⟨_, e⟩
  | frz ob u => obtain ⟨e, _⟩ := x; exact ⟨_, e⟩
  | tbl ps => exact ⟨_, (show h.get? a = some _ from x)⟩
  | met f y => exact ⟨_, (show h.get? a = some _ from x)⟩
  | ext φ => obtain ⟨_, e, _⟩ := x; exact e

/-- an exception flies behind a call: the callers' frames, the abstract heap and the state ahead of the call, the heap behind it, where it stands, its class -/
structure Fly (P : Program) (w : World) (outer : List Env) (H : Hp) (s : Shared) (H' : Hp) (a : Addr) (cls : Value) (s' : Shared) : Prop where
  os : s'.os = s.os
  bare : AllBare s'.gens
  un : Un (frs outer) [] H H' s.heap s'.heap
  hok : HOk P w H' s'.heap
  an : H' a = none
  fly : ∃ (B : Heap) (a0 : Value), Heap.FlyingW B outer a cls a0 s'.heap ∧ ∀ b o, s'.heap.get? b = some o → ((∃ q, s.heap.get? b = some q) ∨ ∃ u, H' b = some u) → b ∉ frs outer → B.get? b = some o
/-- how an exception lies behind a call -/
def CXO (P : Program) (w : World) : CXT := fun outer H s E e s' => ∃ a cls H', e = .ref a ∧ Fly P w outer H s H' a cls s' ∧ E cls none H'
theorem passN {P : Program} {w : World} {X : Cx} : Passes (CXO P w) X E0 := fun _ _ _ _ _ _ _ ⟨_, _, _, _, _, h⟩ => h.elim

section
variable {CX : CXT} {P : Program} {w : World} {K : PySem.W.Frag} {mg : Str → Option Value} {base : Heap} {N : List Str} {qual : Str} {scope : Scope} {f : Addr} {cdv : Value} {A : Around} {outer : List Env} {s s1 s2 : Shared} {H H1 H2 : Hp} {E : XK}
  {pins : List (Addr × Obj)} {σ : St} {a : Addr} {cls a0 : Value} {B h' : Heap}
/-- one frame further out: I the body's state, s2 behind a call that raised there (or s1 itself), B what is kept -/
theorem fly_out (I : Inv (cxOf CX P w K mg base N qual scope f cdv A outer s H E) pins σ H1 s1) (os : s2.os = s1.os) (bare : AllBare s2.gens)
    (un : Un (frs (envOfC qual scope s.heap.objs.size f cdv :: outer)) [] H1 H2 s1.heap s2.heap) (hok : HOk P w H2 s2.heap) (an : H2 a = none)
    (hB : ∀ b o, s2.heap.get? b = some o → ((∃ q, s1.heap.get? b = some q) ∨ ∃ u, H2 b = some u) → b ∉ frs (envOfC qual scope s.heap.objs.size f cdv :: outer) → B.get? b = some o)
    (hfl : Heap.FlyingW B outer a cls a0 h') (hsl : ∀ b ∈ frs outer, ∀ o, s2.heap.get? b = some o → ∃ sl, h'.get? b = some { o with slots := sl }) : Fly P w outer H s H2 a cls { s2 with heap := h' } := by
  have fr : frs (envOfC qual scope s.heap.objs.size f cdv :: outer) = s.heap.objs.size :: frs outer := rfl
  have old : ∀ b o, s.heap.get? b = some o → b ≠ s.heap.objs.size := fun b o e => Nat.ne_of_lt (Heap.lt_size e)
  have nin : ∀ b, b ≠ s.heap.objs.size → b ∉ frs outer → b ∉ frs (envOfC qual scope s.heap.objs.size f cdv :: outer) := fun b h1 h2 z => by
    rw [fr] at z
    rcases List.mem_cons.mp z with z | z
    · exact h1 z
    · exact h2 z
  have u1 : Un (frs outer) [] H H1 s.heap s1.heap := I.base
  have hst : ∀ b ∈ frs (envOfC qual scope s.heap.objs.size f cdv :: outer), H2 b = none := fun b hb => by
    obtain ⟨_, o, e, _⟩ := I.stack.mem (show b ∈ (envOfC qual scope s.heap.objs.size f cdv :: outer).filterMap (·.frame) from hb)
    exact un.free b o e (I.stkFree b hb) (by simp)
  have there2 : ∀ b o, s.heap.get? b = some o → ∃ o', s2.heap.get? b = some o' := fun b o e => by
    obtain ⟨o1, e1⟩ := u1.there b o e (by simp)
    exact un.there b o1 e1 (by simp)
  have inB : ∀ b o, s.heap.get? b = some o → b ∉ frs outer → ∀ o2, s2.heap.get? b = some o2 → h'.get? b = some o2 := fun b o e hb o2 e2 => by
    obtain ⟨o1, e1⟩ := u1.there b o e (by simp)
    exact hfl.1 b o2 (hB b o2 e2 (.inl ⟨o1, e1⟩) (nin b (old b o e) hb))
  have trB : ∀ b u, H2 b = some u → ∀ o2, s2.heap.get? b = some o2 → h'.get? b = some o2 := fun b u e o2 e2 =>
    hfl.1 b o2 (hB b o2 e2 (.inr ⟨u, e⟩) fun z => by rw [hst b z] at e; cases e)
  refine ⟨os.trans I.os, bare, ⟨fun b o e n hb hx => ?_, fun b o e n hb hx => ?_, fun b o e n hx => ?_, fun b o e hx => ?_, fun b xs e => un.tups b xs (u1.tups b xs e), fun b o u e => un.frzs b o u (u1.frzs b o u e), fun b ps e => ?_⟩, fun b u e => ?_, an, ⟨B, a0, hfl, fun b o e hh hb => ?_⟩⟩
  · exact inB b o e hb o (un.keep b o (u1.keep b o e n hb hx) (u1.free b o e n hx) (nin b (old b o e) hb) hx)
  · obtain ⟨sl, e1⟩ := u1.slot b o e n hb hx
    obtain ⟨sl2, e2⟩ := un.any e1 (u1.free b o e n hx) hx
    obtain ⟨sl3, e3⟩ := hsl b hb _ e2
    exact ⟨sl3, e3⟩
  · obtain ⟨o1, e1⟩ := u1.there b o e hx
    exact un.free b o1 e1 (u1.free b o e n hx) hx
  · obtain ⟨o2, e2⟩ := there2 b o e
    by_cases hb : b ∈ frs outer
    · obtain ⟨sl, e3⟩ := hsl b hb _ e2
      exact ⟨_, e3⟩
    · exact ⟨o2, inB b o e hb o2 e2⟩
  · obtain ⟨m1, e1⟩ := u1.tbls b ps e
    obtain ⟨m2, e2⟩ := un.tbls b _ e1
    exact ⟨m1 ++ m2, by rw [e2, Array.append_assoc]⟩
  · refine (hok b u e).stay (fun c v hc q => ?_) (fun _ q => q) fun _ _ q => q
    rcases hc with z | z
    · subst z; exact trB c u e v q
    · exact trB c _ z v q
  · rcases hh with ⟨q, hq⟩ | ⟨u, hu⟩
    · obtain ⟨o2, e2⟩ := there2 b q hq
      have e3 := inB b q hq hb o2 e2
      have e' : h'.get? b = some o := e
      rw [e3] at e'; cases e'
      obtain ⟨o1, e1⟩ := u1.there b q hq (by simp)
      exact hB b _ e2 (.inl ⟨o1, e1⟩) (nin b (old b q hq) hb)
    · obtain ⟨o2, e2⟩ := (hok b u hu).there
      have e3 := trB b u hu o2 e2
      have e' : h'.get? b = some o := e
      rw [e3] at e'; cases e'
      exact hB b _ e2 (.inr ⟨u, hu⟩) fun z => by rw [hst b z] at hu; cases hu
/-- an exception of a callee goes on through a def's body -/
theorem passO : Passes (CXO P w) (cxOf (CXO P w) P w K mg base N qual scope f cdv A outer s H E) E := by
  intro pins σ H1 s1 e s2 I ⟨a, cls, H2, he, F, hE⟩
  subst he
  obtain ⟨B, a0, hfl, hB⟩ := F.fly
  have hfr : (A.deeper (envOfC qual scope s.heap.objs.size f cdv)).frames = some (envOfC qual scope s.heap.objs.size f cdv :: outer) := I.ok.frames
  show wpAny _ _ (leaving _ _) _ _ _
  refine wpAny_leaves_onW hfr rfl hfl fun h' x1 x2 => ⟨a, cls, H2, rfl, ?_, hE⟩
  refine fly_out I F.os F.bare F.un F.hok F.an hB x1 fun b hb o e => x2 b o e ?_
  obtain ⟨_, o', e', d⟩ := hfl.2.2.1.mem (show b ∈ (envOfC qual scope s.heap.objs.size f cdv :: outer).filterMap (·.frame) from List.mem_cons_of_mem _ hb)
  rw [e] at e'; cases e'
  exact d
theorem own_cls {K : PySem.W.Frag} {h : Heap} {mg : Str → Option Value} {x : Str} {C : Addr} {bmB : List Value} {newId : String} (X : K.In h) (b : mg x = some (.ref C)) (q : PySem.W.excIn K C bmB newId = true) : OwnCls x C bmB newId mg h := by
  have no : ∀ {P : Prop}, false = true → P := fun z => absurd z Bool.false_ne_true
  unfold PySem.W.excIn at q
  split at q <;> first | exact no q | skip
  next dict data slots found =>
  split at q <;> first | exact no q | skip
  next first above w0 w1 w2 w3 made w5 order listed =>
  simp only [Bool.and_eq_true] at q
  obtain ⟨⟨⟨⟨⟨isC, isNew⟩, noDel⟩, tail⟩, ok⟩, noInit⟩ := q
  have eC : first = C := beq_iff_eq.mp isC
  have eN : made = newId := beq_iff_eq.mp isNew
  have eD : data.hasDel = false := by simpa using noDel
  have eS : slots = #[w0, w1, w2, w3, some (.builtin made), w5] := Array.toList_inj.mp (by rw [listed])
  cases data
  simp only at order eD
  subst eC eN order eD eS
  exact { bound := b, obj := ⟨above, _, _, _, _, _, _, _, _, _, dict, w0, w1, w2, w3, w5, _, X _ _ found, .of_isNs (PySem.W.isNs_of_in X ok), PySem.W.nsMap_none_of_in X ok (by simpa using noInit), PySem.W.tail_of_in X tail⟩ }
/-- raise C(..) of an own error class, in a def's body -/
def tRaise (C : Addr) (t : TA) (E : XK) : TS := fun D σ H => t σ H fun vs H1 => vs.length ≤ sizeLine ∧ E (.ref C) none H1
theorem ps_raise {x : Str} {C : Addr} {bm : List Value} {Bn newId initId : String} {np cpos pos : Pos} {e₀ : Expr} {rest : List Expr} {t : TA} (hx : Gl (cxOf (CXO P w) P w K mg base N qual scope f cdv A outer s H E) x) (b : mg x = some (.ref C)) (q : PySem.W.excIn K C bm newId = true) (FB : ExcBaseFacts Bn newId initId bm)
    (ha : PA (cxOf (CXO P w) P w K mg base N qual scope f cdv A outer s H E) (e₀ :: rest) t) (hd : (x == ("__debug__" : Str)) = false := by decide)
    (he : starEach (e₀ :: rest) (envOfC qual scope s.heap.objs.size f cdv) = (false, eval e₀ (envOfC qual scope s.heap.objs.size f cdv)) :: starEach rest (envOfC qual scope s.heap.objs.size f cdv) := by rfl)
    (hplain : (backTo cpos (starEach rest (envOfC qual scope s.heap.objs.size f cdv))).any (·.1) = false := by rfl) :
    PS (cxOf (CXO P w) P w K mg base N qual scope f cdv A outer s H E) (.Raise (some (.Call (.Name x np) (e₀ :: rest) [] cpos)) none pos) (tRaise C t E) := by
  intro pins s0 σ H0 D I h
  obtain ⟨tl, Nn, nm, q', bs, hdct, sn, sub, ab, col, dd, k0, k1, k2, k3, k5, mN, hC, hN, hni, T⟩ := (own_cls I.mod.kin b q).obj
  refine wpAny_Raise_call_subT (C := C) (nm := nm) (q := q') (N := Nn) (bs := bs) (bm := tl) (hdct := hdct) (sn := sn) (sub := sub) (ab := ab) (col := col) (dd := dd) (k0 := k0) (k1 := k1) (k2 := k2) (k3 := k3) (k5 := k5)
    FB (mN := mN) (T.hasType FB.hasBase) (I.ok.hd rfl) (by show (backTo cpos (starEach (e₀ :: rest) (envOfC qual scope s.heap.objs.size f cdv))).any _ = false; rw [he]; show (false || (backTo cpos (starEach rest (envOfC qual scope s.heap.objs.size f cdv))).any (·.1)) = false; rw [hplain]; rfl) hni (ld_glob I hx b ⟨rfl, ?_⟩ hd)
  have hA := ha cpos pins s0 σ H0 _ I h
  have he' : starEach (e₀ :: rest) (cxOf (CXO P w) P w K mg base N qual scope f cdv A outer s H E).env = (false, eval e₀ (cxOf (CXO P w) P w K mg base N qual scope f cdv A outer s H E).env) :: starEach rest (cxOf (CXO P w) P w K mg base N qual scope f cdv A outer s H E).env := he
  rw [he'] at hA ⊢
  refine Calls.evalArgs_plain (wpAny_mono hA (fun us s2 ⟨vs, H2, I2, rv, hz, hE⟩ => ⟨rfl, by rw [← rv.length]; exact hz, I2.bk _ _ hC, hN.keeps I2.bk, T.keeps I2.bk, fun h' e hx' => ?_⟩) fun _ _ y => y)
  have hfr : (A.deeper (envOfC qual scope s.heap.objs.size f cdv)).frames = some (envOfC qual scope s.heap.objs.size f cdv :: outer) := I2.ok.frames
  have hin : ∀ env ∈ (envOfC qual scope s.heap.objs.size f cdv :: outer), ∀ b, env.frame = some b → b ∈ frs (envOfC qual scope s.heap.objs.size f cdv :: outer) := fun env he b hb => List.mem_filterMap.mpr ⟨env, he, hb⟩
  have noH : ∀ b, s2.heap.get? b = none → H2 b = none := fun b e => by
    cases z : H2 b with
    | none => rfl
    | some u => obtain ⟨o, eo⟩ := (I2.hok b u z).there; rw [e] at eo; cases eo
  show wpAny _ _ (leaving _ _) _ _ _
  refine wpAny_leaves_madeW (base := PySem.W.hideAll s2.heap (frs (envOfC qual scope s.heap.objs.size f cdv :: outer))) (h := s2.heap) hfr rfl (fun b o q => PySem.W.of_hideAll _ q) (PySem.W.funFrames_hide I2.stack hin) hx' fun h'' t x1 x2 x3 x4 => ⟨e, .ref C, H2, rfl, ?_, hE⟩
  refine fly_out (s2 := { s2 with heap := h' }) I2 rfl I2.bare (Un.kept hx'.keeps) (I2.hok.kept hx'.keeps) (noH e hx'.new) (fun b o eb hh hb => ?_) x1 fun b hb o eb => x4 b o eb ?_
  · have key : ∀ o', s2.heap.get? b = some o' → (PySem.W.hideAll s2.heap (frs (envOfC qual scope s.heap.objs.size f cdv :: outer))).get? b = some o := fun o' e' => by
      have e2 := hx'.keeps b o' e'
      have e3 : h'.get? b = some o := eb
      rw [e2] at e3; cases e3
      exact PySem.W.hideAll_get _ e' hb
    rcases hh with ⟨o', e'⟩ | ⟨u, hu⟩
    · exact key o' e'
    · obtain ⟨o', e'⟩ := (I2.hok b u hu).there
      exact key o' e'
  · obtain ⟨_, o', e', d⟩ := I2.stack.mem (show b ∈ (envOfC qual scope s.heap.objs.size f cdv :: outer).filterMap (·.frame) from List.mem_cons_of_mem _ hb)
    have e2 := hx'.keeps b o' e'
    have e3 : h'.get? b = some o := eb
    rw [e2] at e3; cases e3
    exact d
end

/-! ### calls that may raise, caught here -/
abbrev TX := St → Hp → VK → XK → Prop
section
variable {X : Cx} {k : Nat} {f C : Addr} {fd : FuncData} {ps : List Str} {sp : Sp} {dvs : List V} {ds : List Value} {x m : Str} {p pos apos : Pos} {e o : Expr} {es : List Expr} {ta : TE} {t : TA}
end
end L2

set_option Elab.async false
set_option linter.all false
set_option maxRecDepth 100000
set_option maxHeartbeats 4000000
namespace L2
open PySem PySem.Spec PyProof.Rows
/-! ### try .. except C as n -/
section
variable {X : Cx} {pins : List (Addr × Obj)} {σ : St} {H1 H2 : Hp} {s1 s2 : Shared} {a : Addr} {cls a0 : Value} {B h' : Heap}
end

section
variable {X : Cx} {e : Expr} {tx : TX} {ts : TS} {x n : Str} {c : Value} {i : Nat} {b₀ : Stmt} {suite : List Stmt} {pos pos' np hpos : Pos}
end
end L2

set_option Elab.async false
set_option linter.all false
set_option maxRecDepth 100000
set_option maxHeartbeats 4000000
namespace L2
open PySem PySem.Spec PyProof.Rows
/-! ### isinstance of a caught exception -/
section
variable {prog : Program} {w : World} {A : Around} {E : Value → Shared → Prop} {h : Heap} {g : Array GenState} {d : Drawn} {t : Nat} {os : OsState} {K : PySem.W.Frag} {a C : Addr} {o : Obj} {vs : Array Value}
end
end L2
namespace L2
open PySem PySem.Spec PyProof.Rows
/-- an own error class, as the top has made it -/
structure ExcCl (K : PySem.W.Frag) (C : Addr) : Prop where
  cl : (PySem.W.clsIn K C).isSome = true
  m1 : PySem.W.mroIn K C (.type "object") = some true
  m2 : PySem.W.mroIn K C (.type "BaseException") = some true
  g1 : PySem.W.findIn K (.ref C) "__getattribute__" = some (some (.builtin "BaseException.__getattribute__"))
  g2 : PySem.W.findIn K (.ref C) "__getattr__" = some none
  g3 : PySem.W.findIn K (.ref C) "__class__" = some (some (.builtin "object.__class__"))
section
variable {X : Cx}
end
end L2

set_option Elab.async false
set_option linter.all false
set_option maxRecDepth 100000
set_option maxHeartbeats 4000000
namespace L2
open PySem PySem.Spec PyProof.Rows
/-! ### texts, each once -/
def addS (σ : List Str) (z : Str) : List Str := if z ∈ σ then σ else z :: σ
def dist (zs : List Str) : List Str := zs.foldl addS []
theorem mem_addS {σ : List Str} {z k : Str} : k ∈ addS σ z ↔ k ∈ σ ∨ k = z := by
  unfold addS
  split
  · exact ⟨.inl, fun h => h.elim id fun e => by rw [e]; assumption⟩
  · rw [List.mem_cons]; exact or_comm
theorem len_addS (σ : List Str) (z : Str) : (addS σ z).length = if z ∈ σ then σ.length else σ.length + 1 := by
  unfold addS; split <;> simp
theorem dist_snoc (zs : List Str) (z : Str) : dist (zs ++ [z]) = addS (dist zs) z := by simp [dist, List.foldl_append]
theorem fold_le : ∀ (zs σ : List Str), (zs.foldl addS σ).length ≤ σ.length + zs.length
  | [], σ => by simp
  | z :: zs, σ => by
    have h := fold_le zs (addS σ z)
    rw [len_addS] at h
    simp only [List.foldl_cons, List.length_cons]
    split at h <;> omega
theorem dist_le (zs : List Str) : (dist zs).length ≤ zs.length := by
  have h := fold_le zs []
  rw [List.length_nil, Nat.zero_add] at h
  exact h
theorem fold_nd : ∀ (zs σ : List Str), zs.Nodup → (∀ z ∈ zs, z ∉ σ) → (zs.foldl addS σ).length = σ.length + zs.length
  | [], σ, _, _ => by simp
  | z :: zs, σ, nd, h => by
    rw [List.nodup_cons] at nd
    simp only [List.foldl_cons, List.length_cons]
    rw [fold_nd zs (addS σ z) nd.2 fun y hy q => ?_, len_addS, if_neg (h z List.mem_cons_self)]
    · omega
    · rcases mem_addS.mp q with q | q
      · exact h y (List.mem_cons_of_mem _ hy) q
      · exact nd.1 (q ▸ hy)
theorem dist_nd {zs : List Str} (nd : zs.Nodup) : (dist zs).length = zs.length := by
  have h := fold_nd zs [] nd fun _ _ h => nomatch h
  rw [List.length_nil, Nat.zero_add] at h
  exact h
theorem strs_at : ∀ {its : List Value} {zs : List Str} {i : Nat} {v : Value}, StrsAre its zs → its[i]? = some v → ∃ z t, zs[i]? = some z ∧ v = .str z t := by
  intro its zs i v h
  induction h generalizing i with
  | nil => intro e; simp at e
  | cons z t _ ih =>
    intro e
    cases i with
    | zero => simp at e; exact ⟨z, t, rfl, e.symm⟩
    | succ i => exact ih (by simpa using e)
theorem strs_len : ∀ {its : List Value} {zs : List Str}, StrsAre its zs → its.length = zs.length := by
  intro its zs h
  induction h with
  | nil => rfl
  | cons z t _ ih => simp [ih]
theorem of_strs : ∀ {its : List Value} {zs : List Str}, StrsAre its zs → Vals (zs.map V.str) its := by
  intro its zs h
  induction h with
  | nil => exact .nil
  | cons z t _ ih => exact .cons ⟨t, rfl⟩ ih
/-! ### set(texts) -/
section
variable {prog : Program} {w : World} {A : Around} {I S : Addr} {fp wr : List Addr} {G : Array GenState → Array GenState → Prop} {P : Nat → Value → Prop} {St : Nat → Shared → Prop} {zs : List Str} {R : Result → Shared → Prop}
/-- the set of some texts -/
abbrev TxtSet (prog : Program) (w : World) (h : Heap) (S : Addr) (zs : List Str) : Prop := h.SetOf (strKind prog w) S (fun k => decide (k ∈ dist zs)) (dist zs).length
theorem TxtSet.keep {h h' : Heap} (x : TxtSet prog w h S zs) (k : ∀ o, h.get? S = some o → h'.get? S = some o) : TxtSet prog w h' S zs := by
  obtain ⟨o, es, ep, t, ho, r⟩ := x
  exact ⟨o, es, ep, t, k o ho, r⟩
theorem TxtSet.more {h : Heap} {z : Str} (x : h.SetOf (strKind prog w) S (fun k => decide (k ∈ dist zs) || decide (k = z)) (if decide (z ∈ dist zs) = true then (dist zs).length else (dist zs).length + 1)) : TxtSet prog w h S (zs ++ [z]) := by
  have e1 : (fun k => decide (k ∈ dist (zs ++ [z]))) = fun k => decide (k ∈ dist zs) || decide (k = z) := by
    funext k; rw [dist_snoc, Bool.eq_iff_iff]; simp [mem_addS]
  have e2 : (dist (zs ++ [z])).length = if decide (z ∈ dist zs) = true then (dist zs).length else (dist zs).length + 1 := by
    rw [dist_snoc, len_addS]; simp
  unfold TxtSet
  rw [e1, e2]; exact x
theorem texts_in (W : WalksS prog w A.in1 I fp wr G zs.length P St) (off : S ∉ fp) (hz : ∀ i v, P i v → ∃ z t, zs[i]? = some z ∧ v = .str z t) (small : zs.length + 1 < scanBound) :
    ∀ (left i : Nat) (s : Shared), i + left = zs.length → St i s → TxtSet prog w s.heap S (zs.take i) →
      (∀ s', Moved (S :: wr) G s s' → TxtSet prog w s'.heap S zs → R (.ok (.ret .none)) s') → codeAny (model prog w) A (.builtin "set.update.loop" ⟨[.ref S, .ref I], []⟩) R s
  | 0, i, s, hi, st, x, k => by
    have e : zs.take i = zs := List.take_of_length_le (by omega)
    rw [show i = zs.length by omega] at st
    refine codeAny_builtin F.entry_set_update_loop ?_
    rw [Around.under_plainId F.plain_set_update_loop _]
    apply wpAny_bind
    refine W.done s _ _ st fun s' m => ?_
    exact wpAny_pure (k s' (m.mono fun b hb => List.mem_cons_of_mem _ hb) (by rw [e] at x; exact x.keep fun o ho => m.heap S o (fun hs => off (W.sub _ hs)) ho))
  | left + 1, i, s, hi, st, x, k => by
    refine codeAny_builtin F.entry_set_update_loop ?_
    rw [Around.under_plainId F.plain_set_update_loop _]
    apply wpAny_bind
    refine W.item i s _ _ (by omega) st fun v s1 p st1 m => ?_
    obtain ⟨z, t, ez, rfl⟩ := hz i v p
    have x1 := x.keep fun o ho => m.heap S o (fun hs => off (W.sub _ hs)) ho
    have et : zs.take (i + 1) = zs.take i ++ [z] := by rw [List.take_add_one, ez]; rfl
    have yes : (strKind prog w).is z (.str z t) = true := by show Value.isStrOf z (.str z t) = true; simp [Value.isStrOf]
    show wpAny _ A.in1 (holding [Value.str z t] (setAdd S (.str z t)) >>= _) _ _ s1
    apply wpAny_bind; apply wpAny_holding
    show wpAny _ A.in1 (holding _ _) _ _ _
    apply wpAny_holding; apply wpAny_bind
    refine (strKind prog w).pyHash yes ?_
    have few := dist_le (zs.take i)
    rw [List.length_take] at few
    refine wpAny_setAddHashed_of (knd := strKind prog w) (s := { s1 with toks := s1.toks + 1 }) yes rfl x1 (by omega) fun h2 sb x2 => ?_
    refine wpAny_pure ⟨plainId_quiet F.plain_set_update_loop _, texts_in W off hz small left (i + 1) _ (by omega) ?_ (by rw [et]; exact TxtSet.more x2) fun s3 m3 x3 => ?_⟩
    · exact W.frame _ s1 _ _ st1 (Nat.le_succ _) fun b hb o e => (sb.2 b fun z' => off (z' ▸ hb)).trans e
    · refine k s3 (Moved.trans W.gtrans ((m.mono fun b hb => List.mem_cons_of_mem _ hb).then_heap (Nat.le_succ _) fun b o hb e => ?_) m3) x3
      exact (sb.2 b fun z' => hb (by rw [z']; exact List.mem_cons_self)).trans e
end
section
variable {prog : Program} {w : World} {A : Around} {E : Value → Shared → Prop} {s : Shared}
/-- T(..) of a built-in type: its __new__, then its __init__ of what that made -/
theorem made_by {T newId initId : String} {args : List Value} {Q : Value → Shared → Prop} (ft : TypeCalled T newId initId) (hc : checkTypeCall T ⟨args, []⟩ = pure ())
    (h : codeAny (model prog w) A.in1 (.call (.builtin newId) ⟨.type T :: args, []⟩) (wants (fun x t => t.TypeIs x T ∧ codeAny (model prog w) A.in1 (.call (.builtin initId) ⟨x :: args, []⟩) (wants (fun r t' => r = .none ∧ Q x t') E) t) E) s) :
    wpAny (model prog w) A (call (.type T) args) Q E s := by
  have q1 := ft.made
  have q2 := ft.sub
  have q3 := ft.notType
  have q4 := ft.canCreate
  have q5 := ft.init.lookup
  obtain ⟨_, _, q6⟩ := ft.mro
  apply wpAny_call; apply codeAny_of_tree
  show wpAny _ _ (callAny (.type T) _) _ _ _
  apply wpAny_pure
  refine ⟨Code.quiet_builtin _ (by decide +kernel), codeAny_builtin PySem.F.entry_type_call ?_⟩
  rw [Around.under_plain (weight_type_call_type T args []) rfl]
  repeat (any_goals (first | wp_step | assumption))
  apply codeAny_mono h
  rintro (e | f) t k
  · exact k
  cases f <;> first | exact k.elim | skip
  rename_i x
  have q7 := ft.init.bind x
  obtain ⟨ty, k⟩ := k
  repeat (any_goals (first | wp_step | assumption))
  apply codeAny_mono k
  rintro (e | f) t' k'
  · exact k'
  cases f <;> first | exact k'.elim | skip
  obtain ⟨z, k'⟩ := k'
  cases z
  repeat (any_goals (first | wp_step | assumption))
theorem set_texts {l : Addr} {its : List Value} {zs : List Str} {Q : Value → Shared → Prop} (hh : A.handled = none) (hl : s.heap.IsList l its.toArray) (hz : StrsAre its zs) (small : zs.length + 1 < scanBound)
    (h : ∀ (h' : Heap) (tk : Nat), TxtSet prog w h' s.heap.objs.size zs → (∀ b o, s.heap.get? b = some o → h'.get? b = some o) → Q (.ref s.heap.objs.size) { s with heap := h', toks := tk }) :
    wpAny (model prog w) A (call (.type "set") [.ref l]) Q E s := by
  refine made_by PySem.F.called_set (PySem.F.typeCall_set_1 _) (code_set_new_1 (.ref l) fun led => ?_)
  generalize hh1 : s.heap.push { cls := .type "set", dict := none, data := .set #[] 0 (.fresh 0 0 led) } = h1
  have kp : ∀ b o, s.heap.get? b = some o → h1.get? b = some o := fun b o e => by rw [← hh1]; exact Heap.get?_push_of_some _ e
  have sz : h1.objs.size = s.heap.objs.size + 1 := by rw [← hh1]; exact Heap.size_push ..
  have new : h1.get? s.heap.objs.size = some { cls := .type "set", dict := none, data := .set #[] 0 (.fresh 0 0 led) } := by rw [← hh1]; exact Heap.get?_push_size _ rfl
  have ty : ({ s with heap := h1 } : Shared).TypeIs (.ref s.heap.objs.size) "set" := ⟨_, new, rfl⟩
  refine ⟨ty, codeAny_call_builtin PySem.F.called_set.init.plain PySem.F.entry_set_init (check_set_init_1 ty ?_)⟩
  have el : its.length = zs.length := strs_len hz
  obtain ⟨⟨c, d, dt, sl⟩, ho, rfl, n, rfl⟩ := hl
  have ho1 := kp _ _ ho
  have lt : @LT.lt Nat _ l s.heap.objs.size := Heap.lt_size ho
  have il : h1.IsList l its.toArray := ⟨_, ho1, rfl, n, rfl⟩
  have n1 := PySem.F.sub_list_set
  have n2 := PySem.F.sub_list_frozenset
  have n3 : (Value.type "list" == Value.type "dict") = false := by decide
  unfold Builtin.«set.__init__» noKeywords Builtin.Frozenset.updateFrom
  generalize pi : pyIter = it
  wp_walk
  subst pi
  apply wpAny_pyIter_list il
  apply wpAny_bind; apply wpAny_runValue
  have W := (Walks.list (prog := prog) (w := w) (A := A.in1.in1.in1) (by simpa using hh) h1.objs.size l (by rw [sz]; exact Nat.ne_of_lt (Nat.lt_succ_of_lt lt)) its.toArray).toS
  have e0 : its.toArray.size = zs.length := by rw [List.size_toArray]; exact el
  rw [e0] at W
  refine texts_in (zs := zs) W ?_ (fun i v p => ?_) small zs.length 0 _ (Nat.zero_add _) ⟨⟨_, Heap.get?_push_size _ rfl, rfl, rfl⟩, il.push _⟩ ?_ fun t m x => ?_
  · rw [sz]
    intro q
    rcases List.mem_cons.mp q with q | q
    · exact absurd q (Nat.ne_of_lt (Nat.lt_succ_self _))
    · exact absurd (List.mem_singleton.mp q) (Nat.ne_of_gt lt)
  · have p' : its[i]? = some v := by simpa using p
    exact strs_at hz p'
  · exact (setObjOf_fresh (knd := strKind prog w) led).setOf (Heap.get?_push_of_some _ new) (by decide)
  · obtain ⟨h2, g2, d2, t2, o2⟩ := t
    cases (show g2 = s.gens from m.gens)
    cases (show d2 = s.drawn from m.drawn)
    cases (show o2 = s.os from m.os)
    apply wpAny_pure
    refine wpAny_pure ⟨rfl, h h2 t2 x fun b o e => m.heap b o ?_ (Heap.get?_push_of_some _ (kp b o e))⟩
    have lb : @LT.lt Nat _ b s.heap.objs.size := Heap.lt_size e
    rw [sz]
    intro q
    rcases List.mem_cons.mp q with q | q
    · exact absurd q (Nat.ne_of_lt lb)
    · exact absurd (List.mem_singleton.mp q) (Nat.ne_of_lt (Nat.lt_succ_of_lt lb))
end
end L2

set_option Elab.async false
set_option linter.all false
set_option maxRecDepth 100000
set_option maxHeartbeats 4000000
namespace L2
open PySem PySem.Spec PyProof.Rows
/-! ### sorted(texts) -/
def leS (a b : Str) : Bool := decide (a.cps.toList ≤ b.cps.toList)
theorem leS_iff {a b : Str} : leS a b = true ↔ a.cps.toList ≤ b.cps.toList := by simp [leS]
theorem leS_trans {a b c : Str} (h : leS a b = true) (k : leS b c = true) : leS a c = true := leS_iff.mpr (List.le_trans (leS_iff.mp h) (leS_iff.mp k))
theorem leS_anti {a b : Str} (h : leS a b = true) (k : leS b a = true) : a = b := by
  have e := List.le_antisymm (leS_iff.mp h) (leS_iff.mp k)
  cases a; cases b
  simp only [Str.mk.injEq]
  exact Array.toList_inj.mp e
theorem leS_total (a b : Str) : (leS a b || leS b a) = true := by
  rcases List.le_total a.cps.toList b.cps.toList with h | h
  · simp [leS_iff.mpr h]
  · simp [leS_iff.mpr h]
def srt (zs : List Str) : List Str := zs.mergeSort leS
theorem srt_perm (zs : List Str) : (srt zs).Perm zs := List.mergeSort_perm _ _
theorem srt_pw (zs : List Str) : (srt zs).Pairwise fun a b => leS a b = true := List.pairwise_mergeSort (le := leS) (fun _ _ _ h k => leS_trans h k) leS_total zs
theorem rising_pw : ∀ (l : List Str) (p : Str), risingS p l = true → (p :: l).Pairwise fun a b => leS a b = true
  | [], p, _ => by simp
  | x :: r, p, h => by
    have h' : (!ltCps x.cps.toList p.cps.toList && risingS x r) = true := h
    rw [Bool.and_eq_true] at h'
    have ih := rising_pw r x h'.2
    have px : leS p x = true := by
      have := h'.1
      rw [ltCps_eq] at this
      refine leS_iff.mpr ?_
      intro q
      rw [decide_eq_true q] at this
      cases this
    refine List.pairwise_cons.mpr ⟨fun y hy => ?_, ih⟩
    rcases List.mem_cons.mp hy with rfl | hy
    · exact px
    · exact leS_trans px ((List.pairwise_cons.mp ih).1 y hy)
theorem sorted_pw : ∀ (l : List Str), sortedS l = true → l.Pairwise fun a b => leS a b = true
  | [], _ => .nil
  | x :: r, h => rising_pw r x h
theorem pw_uniq : ∀ {l m : List Str}, l.Perm m → (l.Pairwise fun a b => leS a b = true) → (m.Pairwise fun a b => leS a b = true) → l = m
  | [], m, p, _, _ => (List.nil_perm.mp p).symm
  | x :: l, [], p, _, _ => absurd p (by simp)
  | x :: l, y :: m, p, a, b => by
    have a' := List.pairwise_cons.mp a
    have b' := List.pairwise_cons.mp b
    have e : x = y := by
      rcases List.mem_cons.mp (p.mem_iff.mp List.mem_cons_self) with q | q
      · exact q
      rcases List.mem_cons.mp (p.mem_iff.mpr List.mem_cons_self) with q' | q'
      · exact q'.symm
      · exact leS_anti (a'.1 y q') (b'.1 x q)
    subst e
    rw [pw_uniq ((List.perm_cons _).mp p) a'.2 b'.2]
theorem srt_of {zs ss : List Str} (p : ss.Perm zs) (h : ss.Pairwise fun a b => leS a b = true) : ss = srt zs := pw_uniq (p.trans (srt_perm zs).symm) h (srt_pw zs)
theorem srt_len (zs : List Str) : (srt zs).length = zs.length := (srt_perm zs).length_eq
section
variable {X : Cx}
theorem call_sorted_txt : CallR X (.builtin "sorted") (fun xs H Q => ∃ (p : Addr) (zs : List Str), xs = [.ref p] ∧ SqL X.K H p (zs.map V.str) ∧ zs.length < 64 ∧ ∀ l, H l = none → Q (.ref l) (upd H l (.lst ((srt zs).map V.str)))) := by
  intro pins s σ H xs us Q I r h
  obtain ⟨p, zs, rfl, hq, few, q⟩ := h
  obtain ⟨u, rfl, rx⟩ := vals1 r
  cases rx
  obtain ⟨its, rv, pl, hz⟩ := I.list hq
  have el := strs_len (strs_of rv)
  refine sorted_strs pl.isList (strs_of rv) (by omega) fun out ss a1 a2 a3 => ?_
  have e := srt_of a2 (sorted_pw ss a3)
  subst e
  obtain ⟨n, hn⟩ := sortedAll_at s.heap its out
  have lb : ((srt zs).map V.str).length ≤ sizeLine := by
    rw [List.length_map, srt_len]
    exact Nat.le_trans (Nat.le_of_lt few) (by decide)
  refine ⟨.ref (s.heap.objs.size + 1), _, I.laid (t' := s.toks) (o := .lst ((srt zs).map V.str)) (fun b o e => sortedAll_old e) (Nat.le_succ _) ?_, rfl, q _ (I.hok.fresh (Nat.le_succ _))⟩
  exact ⟨lb, out.toList, n, of_strs a1, by rw [hn]⟩
end
/-! ### values alike, within one another -/
section
variable {X : Cx} {pins : List (Addr × Obj)} {σ : St} {H : Hp} {s : Shared}
end
section
variable {X : Cx}
/-! ### len(set(texts)) -/
def tLenSet (K : PySem.W.Frag) (te : TE) : TE := fun σ H Q => te σ H fun x H1 => ∃ (p : Addr) (zs : List Str), x = .ref p ∧ SqL K H1 p (zs.map V.str) ∧ zs.length + 1 < scanBound ∧ Q (.int (dist zs).length) H1
theorem pe_lenset {e : Expr} {te : TE} {xl xs : Str} {p1 p2 pos1 pos2 : Pos} (hc : X.calm = true) (he : PE X e te) (gl : Gl X xl) (ml : X.mg xl = none) (vl : bootBuiltins xl = some (.builtin "len")) (gs : Gl X xs) (ms : X.mg xs = none) (vs : bootBuiltins xs = some (.type "set"))
    (hn1 : xl ≠ "__name__" := by decide) (hd1 : (xl == ("__debug__" : Str)) = false := by decide) (hn2 : xs ≠ "__name__" := by decide) (hd2 : (xs == ("__debug__" : Str)) = false := by decide)
    (hs : starEach [e] X.env = [(false, eval e X.env)] := by rfl) : PE X (.Call (.Name xl p1) [.Call (.Name xs p2) [e] [] pos2] [] pos1) (tLenSet X.K te) := by
  intro pins s σ H Q I h
  refine wpAny_Call_Name_kw (ld_blt I gl ml vl ?_ hn1 hd1)
  refine PyProof.Rows.callWith_builtin1 ?_ rfl rfl
  show wpAny _ _ (spliced [(false, eval (.Call (.Name xs p2) [e] [] pos2) X.env)]) _ _ s
  refine Calls.spliced_cons ?_
  refine wpAny_Call_Name_kw (ld_blt I gs ms vs ?_ hn2 hd2)
  refine PyProof.Rows.callWith_type1 (thn (pa_cons he pa_nil hs pos2 pins s σ H (fun vs H1 => ∃ x, vs = [x] ∧ ∃ (p : Addr) (zs : List Str), x = .ref p ∧ SqL X.K H1 p (zs.map V.str) ∧ zs.length + 1 < scanBound ∧ Q (.int (dist zs).length) H1) I ?_) fun us s1 h1 => ?_) hs rfl
  · have mono := h
    refine ?_
    show te σ H _
    exact (show te σ H (fun x H1 => ∃ x', [x] = [x'] ∧ ∃ (p : Addr) (zs : List Str), x' = .ref p ∧ SqL X.K H1 p (zs.map V.str) ∧ zs.length + 1 < scanBound ∧ Q (.int (dist zs).length) H1) from by
      have e : (fun (x : V) (H1 : Hp) => ∃ x', [x] = [x'] ∧ ∃ (p : Addr) (zs : List Str), x' = .ref p ∧ SqL X.K H1 p (zs.map V.str) ∧ zs.length + 1 < scanBound ∧ Q (.int (dist zs).length) H1) = fun x H1 => ∃ (p : Addr) (zs : List Str), x = .ref p ∧ SqL X.K H1 p (zs.map V.str) ∧ zs.length + 1 < scanBound ∧ Q (.int (dist zs).length) H1 := by
        funext x H1
        refine propext ⟨fun ⟨x', e, r⟩ => ?_, fun r => ⟨x, rfl, r⟩⟩
        cases e
        exact r
      rw [e]
      exact h)
  · obtain ⟨vs', H1, I1, r1, x, rfl, p, zs, rfl, hq, small, q⟩ := h1
    obtain ⟨u, rfl, ru⟩ := vals1 r1
    cases ru
    obtain ⟨its, rv, pl, _⟩ := I1.list hq
    refine set_texts (I1.ok.hd hc) pl.isList (strs_of rv) small fun h' tk T kp => ?_
    refine Calls.spliced_nil ?_
    obtain ⟨o, es, ep, t, ho, hex, hd, _, _, hb, hf, hN⟩ := T
    have I2 : Inv X pins σ H1 { s1 with heap := h', toks := tk } := I1.kept (t' := tk) kp
    have fit : (es.size : Int) < 2 ^ 63 := by
      have : es.size < scanBound := hb
      have z : scanBound ≤ 4096 := by decide
      have : (es.size : Int) < 4096 := by omega
      exact Int.lt_of_lt_of_le this (by decide)
    rw [← hN] at q
    exact call_len_set ho hex hd hf fit ⟨.int es.size, H1, I2.tok _, ⟨_, rfl⟩, q⟩
end
end L2

set_option Elab.async false
set_option linter.all false
set_option maxRecDepth 100000
set_option maxHeartbeats 4000000
namespace L2
open PySem PySem.Spec PyProof.Rows
/-! ### dict comprehensions -/
/-- a block of one clause that makes a dict -/
structure DBlk where
  key : Expr
  val : Expr
  tgt : Expr
  src : Expr
  cs : List Expr
  sc : Scope
  pos : Pos
namespace DBlk
variable (B : DBlk)
abbrev expr : Expr := .DictComp B.key B.val [⟨B.tgt, B.src, B.cs, 0⟩] B.sc B.pos
section
variable (prog : Program) (w : World) (A : Around) (env : Env) (it : Value) (D : Addr)
def Lays (J : Shared → Prop) : Bool → Shared → Prop
  | false, s => J s
  | true, s => Blk.Tame prog w A (eval B.key env) (fun x => Blk.Tame prog w A (eval B.val env) fun y => Blk.Tame prog w A (dictSet D x y) fun _ => J) s
def Takes (J : Shared → Prop) (v : Value) : Shared → Prop :=
  Blk.Tame prog w A (letOwnedTupleGo B.tgt it v) fun _ => Blk.Tame prog w A (assign B.tgt env v) fun _ => Blk.Tame prog w A (allTests env B.cs) (B.Lays prog w A env D J)
def Next (Dn J : Shared → Prop) : Option Value → Shared → Prop
  | none => Dn
  | some v => B.Takes prog w A env it D J v
end
theorem loops {B : DBlk} {prog : Program} {w : World} {A : Around} {env : Env} {it : Value} {D : Addr} {R : Result → Shared → Prop} (G : Nat → Shared → Prop)
    (turn : ∀ k t, G k t → Blk.Tame prog w A (pyNext it) (B.Next prog w A env it D (R (.ok .next)) fun u => ∃ j, j < k ∧ G j u) t)
    {k : Nat} {t : Shared} (g : G k t) : codeAny (model prog w) A (.compLoop B.expr 0 it (.ref D) env) R t := by
  have one : ∀ k t, G k t → Blk.Tame prog w A (compTurn B.expr 0 it (.ref D) env) (fun x t' => match x with | .done r => R (.ok r) t' | .again c => c = .compLoop B.expr 0 it (.ref D) env ∧ ∃ j, j < k ∧ G j t') t := by
    intro k t g
    rw [show B.expr = .DictComp B.key B.val [⟨B.tgt, B.src, B.cs, 0⟩] B.sc B.pos from rfl, compTurn_dict]
    apply wpAny_bind; apply wpAny_standAt; apply wpAny_bind
    refine thn (turn k t g) fun x t1 h1 => ?_
    match x, h1 with
    | none, h1 => exact wpAny_pure h1
    | some v, h1 =>
      apply wpAny_bind; refine thn h1 fun _ t2 h2 => ?_
      apply wpAny_bind; refine thn h2 fun _ t3 h3 => ?_
      apply wpAny_bind; refine thn h3 fun b t4 h4 => ?_
      match b, h4 with
      | false, h4 => exact wpAny_pure ⟨rfl, h4⟩
      | true, h4 =>
        apply wpAny_bind; apply wpAny_bind
        refine thn h4 fun y t5 h5 => ?_
        apply wpAny_bind; apply wpAny_holding
        refine thn h5 fun z t6 h6 => ?_
        apply wpAny_bind; apply wpAny_standAt; apply wpAny_holding
        refine thn h6 fun _ t7 h7 => ?_
        exact wpAny_pure ⟨rfl, h7⟩
  exact codeAny_loop rfl G (fun k t g => wpAny_noted (wpAny_mono (one k t g) (fun _ _ q => q) fun _ _ f => f.elim)) k g
end DBlk
def dcLoop (own : List Str) (fr : List Nat) (g : TG) (tt : TT) (tk te : TE) (σ : St) (Q : VK) (J : It) (H1 : Hp) : Prop :=
  ∃ W : Nat → Nat → List (Key × V) → Hp → Prop, (∃ m, W 0 m [] H1) ∧ ∀ i m kvs H2, W i m kvs H2 → kvs.length ≤ sizeLine ∧
    ((J.stop i H2 ∧ ∀ D, H2 D = none → Q (.ref D) (upd H2 D (.dK kvs))) ∨
     (J.go i H2 ∧ ∀ x H3, J.yld i H2 x H3 → g x (cSt own fr σ) H3 fun σ4 H4 => tt σ4 H4 fun b H5 => if b = true then tk σ4 H5 fun y H6 => te σ4 H6 fun z H7 => ∃ k, y = kV k ∧ ∃ m', m' < m ∧ W (i + 1) m' (putK kvs k z) H7 else ∃ m', m' < m ∧ W (i + 1) m' kvs H5))
def tDC (own : List Str) (fr : List Nat) (wi : TI) (g : TG) (tt : TT) (tk te : TE) : TE := fun σ H Q => wi σ H (dcLoop own fr g tt tk te σ Q)
section
variable {X : Cx} {own : List Str} {fr : List Nat} {sc : Scope} {tg iter kx vx : Expr} {ifs : List Expr} {pos : Pos} {wi : TI} {g : TG} {tt : TT} {tk te : TE}
theorem dc_core {pins : List (Addr × Obj)} {σ : St} {H2 : Hp} {s2 : Shared} {Q : VK} {it : Addr} {fp : List Addr} {tn : Nat → Heap → Prop} {J : It} {RR : Value → Addr → Result → Shared → Prop} {E : Value → Shared → Prop} (hc : X.calm = true) (S : CompSc X own fr sc) (gk : GK own.length g)
    (hg : ∀ s H fp, PG (cxC X own fr sc s H fp) tg g) (ht : ∀ s H fp, PIfs (cxC X own fr sc s H fp) ifs tt) (hk : ∀ s H fp, PE (cxC X own fr sc s H fp) kx tk) (he : ∀ s H fp, PE (cxC X own fr sc s H fp) vx te)
    (I2 : Inv X pins σ H2 s2) (T : Turn X.prog X.w X.K tg J fp it tn) (st2 : tn 0 s2.heap) (f2 : ∀ b ∈ fp, FpOk X pins H2 b) (L : dcLoop own fr g tt tk te σ Q J H2)
    (hRR : ∀ D C s', (∃ m, s'.heap.Ns C m) → @LE.le Nat _ s2.heap.objs.size C → (∃ H', H' C = none ∧ Q (.ref D) H' ∧ ∀ h' tk, Heap.SameBut C s'.heap h' → Inv X pins σ H' { s' with heap := h', toks := tk }) → RR (.ref D) C (.ok .next) s') :
    wpAny (model X.prog X.w) X.A newDict (fun acc s₃ => wpAny (model X.prog X.w) X.A (newFunctionEnv sc X.env.globals (clOf X.env sc.names []) [] X.env.qual none .none (some X.env)) (fun cenv s₄ =>
      codeAny (model X.prog X.w) X.A (.compStart (.DictComp kx vx [⟨tg, iter, ifs, 0⟩] sc pos) 0 (.ref it) acc { cenv with scope := relabel sc X.env }) (RR acc cenv.locals) s₄) E s₃) E s2 := by
  obtain ⟨W, ⟨m0, w0⟩, turn⟩ := L
  refine wpAny_newObj_type (newEnv_comp ?_)
  dsimp only
  generalize hh1 : s2.heap.push { cls := .type "dict", dict := none, data := .dict #[] } = h1
  have hz : h1.objs.size = s2.heap.objs.size + 1 := by rw [← hh1, Heap.size_push]
  have hk1 : ∀ b o, s2.heap.get? b = some o → h1.get? b = some o := fun b o e => by rw [← hh1]; exact Heap.get?_push_of_some _ e
  have hD1 : h1.get? s2.heap.objs.size = some { cls := .type "dict", data := .dict #[] } := by rw [← hh1]; exact Heap.get?_push_size _ rfl
  have hfl : ∀ b ∈ fp, @LT.lt Nat _ b s2.heap.objs.size := fun b hb => by
    obtain ⟨o, e, _⟩ := T.obj _ _ st2 b hb
    exact Heap.lt_size e
  have I3 := inv_comp I2 S f2 hz hk1 hfl
  rw [hz]
  generalize hY : cxC X own fr sc s2 H2 fp = Y at I3
  have hD3 : (hC s2 sc h1).get? s2.heap.objs.size = some { cls := .type "dict", data := .dict #[] } := pushCells_keeps _ _ _ _ (Heap.get?_push_of_some _ hD1)
  have st3 : tn 0 (hC s2 sc h1) := T.keep _ _ _ st2 fun b _ o e => pushCells_keeps _ _ _ _ (Heap.get?_push_of_some _ (hk1 b o e))
  have eP : Y.prog = X.prog := by rw [← hY]; rfl
  have eW : Y.w = X.w := by rw [← hY]; rfl
  have eK : Y.K = X.K := by rw [← hY]; rfl
  have eA : Y.A = X.A := by rw [← hY]; rfl
  have eX : Y.xe = Nev := by rw [← hY]; rfl
  have ecm : Y.calm = true := by rw [← hY]; exact hc
  have eEnv : ({ scope := relabel sc X.env, locals := s2.heap.objs.size + 1, globals := X.env.globals, cells := cellsFrom (s2.heap.objs.size + 1 + 1) sc.names (clOf X.env sc.names []), qual := X.env.qual, func := none, code := X.env.code, frame := X.env.frame, builtins := X.env.builtins } : Env) = Y.env := by rw [← hY]; rfl
  have eL : Y.env.locals = s2.heap.objs.size + 1 := by rw [← hY]; rfl
  rw [eEnv]
  have hg' : PG Y tg g := hY ▸ hg s2 H2 fp
  have ht' : PIfs Y ifs tt := hY ▸ ht s2 H2 fp
  have he' : PE Y vx te := hY ▸ he s2 H2 fp
  have hk' : PE Y kx tk := hY ▸ hk s2 H2 fp
  -- the iterator's and the list's places, in the block
  have dfp : s2.heap.objs.size ∉ fp := fun z => Nat.lt_irrefl _ (hfl _ z)
  have dC : s2.heap.objs.size ≠ s2.heap.objs.size + 1 := Nat.ne_of_lt (Nat.lt_succ_self _)
  have cellN : ∀ x c, Y.env.cells.lookup x = some c → c ≠ s2.heap.objs.size := fun x c e z => by
    obtain ⟨v, o, q, d⟩ := I3.cell x c e
    rw [z] at q
    have q' := hD3.symm.trans q
    cases q'
    cases d
  have hDfs : s2.heap.objs.size ∉ Y.fs := by
    rw [← hY]
    intro z
    rcases List.mem_cons.mp (I2.stkSub _ z) with e | e
    · exact Nat.lt_irrefl _ (by have := I2.lt; rw [← e] at this; exact this)
    · exact I2.nofs (Nat.le_refl _) e
  have hD0 : @LE.le Nat _ Y.s₀.heap.objs.size s2.heap.objs.size := by rw [← hY]; exact Nat.le_refl _
  have fpY : ∀ {H' : Hp} {pp : List (Addr × Obj)}, (∀ b ∈ fp, H' b = none) → (∀ p ∈ pp, p.1 ∉ fp) → ∀ b ∈ fp, FpOk Y pp H' b := fun {H' pp} hn hp b hb => by
    refine ⟨hn b hb, ?_, ?_, ?_, ?_, fun p hq z => ?_⟩
    · have := hfl b hb; rw [eL]; intro z; have z' : @Eq Nat b (s2.heap.objs.size + 1) := z; omega
    · rw [← hY]
      intro z
      rcases List.mem_cons.mp (I2.stkSub _ z) with e | e
      · exact (f2 b hb).2.1 e
      · exact (f2 b hb).2.2.1 e
    · exact .inl (by rw [← hY]; exact hb)
    · exact (I3.ok.exf b (by rw [← hY]; exact hb)).2
    · rcases List.mem_append.mp hq with q | q
      · have : p ∈ ([] : List (Addr × Obj)) := by rw [← hY] at q; exact q
        exact nomatch this
      · exact hp p q (z ▸ hb)
  have pinD : ∀ {H' : Hp} {s' : Shared} {σ' : St} {ob : Obj}, Inv Y [] σ' H' s' → H' s2.heap.objs.size = none → s'.heap.get? s2.heap.objs.size = some ob → (∀ v, ob.data ≠ .cell v) → Inv Y [(s2.heap.objs.size, ob)] σ' H' s' := fun {H' s' σ' ob} J0 hn e d =>
    J0.pins_of fun p hp => by
      have : p = (s2.heap.objs.size, ob) := by simpa using hp
      subst this
      exact ⟨e, hn, by rw [eL]; exact dC, hDfs, d⟩
  have fpp : ∀ {ob : Obj} (p : Addr × Obj), p ∈ [(s2.heap.objs.size, ob)] → p.1 ∉ fp := fun {ob} p hp => by
    have : p = (s2.heap.objs.size, ob) := by simpa using hp
    subst this; exact dfp
  have loop : codeAny (model X.prog X.w) X.A (.compLoop (.DictComp kx vx [⟨tg, iter, ifs, 0⟩] sc pos) 0 (.ref it) (.ref s2.heap.objs.size) Y.env) (RR (.ref s2.heap.objs.size) (s2.heap.objs.size + 1)) { s2 with heap := hC s2 sc h1 } := by
    have hD4 : (hC s2 sc h1).DictOf (mixKind X.prog X.w) s2.heap.objs.size [] := (show h1.DictOf (mixKind X.prog X.w) s2.heap.objs.size [] from hh1 ▸ Heap.DictOf.new s2.heap).keep fun b o e => pushCells_keeps _ _ _ _ (Heap.get?_push_of_some _ e)
    refine DBlk.loops (B := ⟨kx, vx, tg, iter, ifs, sc, pos⟩) (fun n s' => ∃ i kvs vs H', W i n kvs H' ∧ Inv Y [] (cSt own fr σ) H' s' ∧ tn i s'.heap ∧ (∀ b ∈ fp, H' b = none) ∧ H' s2.heap.objs.size = none ∧ s'.heap.DictOf (mixKind X.prog X.w) s2.heap.objs.size vs ∧ KV kvs vs) ?_ (k := m0)
      ⟨0, [], [], H2, w0, I3, st3, fun b hb => (f2 b hb).1, I2.hok.fresh (Nat.le_refl _), hD4, .nil⟩
    rintro n s' ⟨i, kvs, vs, H', w', J0, st', fr', hDn, hDo, rv⟩
    obtain ⟨hyl, cases'⟩ := turn i n kvs H' w'
    obtain ⟨ob, es, ep, hob, hexd, hdat, hkeys, hpairs, hnod⟩ := hDo
    have hnc : ∀ v, ob.data ≠ .cell v := fun v z => by rw [hdat] at z; cases z
    have J1 := pinD J0 hDn hob hnc
    rcases cases' with ⟨stop, fin⟩ | ⟨go, step⟩
    · have d0 := T.done Y eP eW eK ecm i _ s' _ H' Nev J1 (fpY fr' fpp) st' stop
      rw [eA] at d0
      refine wpAny_mono d0 (fun r s4 ⟨hr, J4⟩ => ?_) fun _ _ z => z
      subst hr
      have pD := (J4.pin (s2.heap.objs.size, _) (List.mem_append_right _ List.mem_cons_self)).1
      refine hRR _ _ s4 ?_ (Nat.le_succ _) ⟨upd H' s2.heap.objs.size (.dK kvs), ?_, fin _ hDn, fun h' tk hs => ?_⟩
      · obtain ⟨m, hn, _⟩ := J4.loc
        rw [eL] at hn
        exact ⟨m, hn⟩
      · rw [upd_ne (Ne.symm dC), ← eL]; exact J4.free
      · subst hY
        have hO : ObjOk X.prog X.w (upd H' s2.heap.objs.size (.dK kvs)) h' s2.heap.objs.size (.dK kvs) := ⟨hyl, beq_eq_false_iff_ne.mpr (Ne.symm (Nat.ne_of_lt I2.big)), vs, rv, ob, es, ep, (hs.2 _ dC).trans pD, hexd, hdat, hkeys, hpairs, hnod⟩
        exact inv_back I2 f2 J4 (Nat.le_refl _) hDn dC hs hO tk
    · have d0 := T.item Y eP eW eK ecm i _ s' _ H' Nev J1 (fpY fr' fpp) st' go
      rw [eA] at d0
      refine wpAny_mono d0 (fun r s4 ⟨u, hr, h4⟩ => ?_) fun _ _ z => z
      subst hr
      refine wpAny_mono h4 (fun _ s5 ⟨x, H5, J5, r5, y5, st5, fr5⟩ => ?_) fun _ _ z => z
      have J5' := J5.pinned (fpY fr5 fpp) (T.obj _ _ st5)
      have s1 := hg' _ s5 _ H5 x u _ J5' r5 (gk _ _ _ _ (step x H5 y5))
      rw [eP, eW, eA, eX] at s1
      refine wpAny_mono s1 (fun _ s6 ⟨σ6, H6, J6, q6, kp6⟩ => ?_) fun _ _ z => z
      have s2' := ht' _ s6 σ6 H6 _ J6 q6
      rw [eP, eW, eA, eX] at s2'
      refine wpAny_mono s2' (fun ok s7 ⟨H7, J7, q7⟩ => ?_) fun _ _ z => z
      -- the turn's end
      have low : ∀ {H8 : Hp} {s8 : Shared}, Inv Y ([(s2.heap.objs.size, ob)] ++ pinsAt fp s5.heap) σ6 H8 s8 →
          Inv Y (pinsAt fp s5.heap) σ6 H8 s8 ∧ H8 s2.heap.objs.size = none ∧ s8.heap.get? s2.heap.objs.size = some ob ∧ (∀ b ∈ fp, H8 b = none) ∧ tn (i + 1) s8.heap := fun {H8 s8} J8 => by
        have p8 := J8.pin (s2.heap.objs.size, _) (List.mem_append_right _ (List.mem_append_left _ List.mem_cons_self))
        refine ⟨J8.pins_of fun p hp => J8.pin p (List.mem_append_right _ (List.mem_append_right _ hp)), p8.2.1, p8.1, fun b hb => ?_, T.keep _ _ _ st5 fun b hb o e => (J8.pin (b, o) (List.mem_append_right _ (List.mem_append_right _ (mem_pinsAt hb e)))).1⟩
        obtain ⟨o, e, d⟩ := T.obj _ _ st5 b hb
        exact (J8.pin (b, o) (List.mem_append_right _ (List.mem_append_right _ (mem_pinsAt hb e)))).2.1
      have weak : ∀ {H8 : Hp} {s8 : Shared} {pp : List (Addr × Obj)}, Inv Y pp σ6 H8 s8 → Inv Y [] (cSt own fr σ) H8 s8 := fun {H8 s8 pp} J8 => (J8.weak kp6.1.symm (fun j v e => by
        by_cases hj : j < own.length
        · exfalso
          unfold cSt at e
          rw [List.getElem?_append_left (by simpa using hj), List.getElem?_replicate] at e
          split at e <;> cases e
        · rw [kp6.2 j (Nat.not_lt.mp hj)]; exact e)).pins_of fun p hp => nomatch hp
      cases ok with
      | false =>
        obtain ⟨m', hm, w7⟩ := (show ∃ m', m' < n ∧ W (i + 1) m' kvs H7 by simpa using q7)
        obtain ⟨_, l1, l2, l3, l4⟩ := low J7
        exact ⟨m', hm, i + 1, kvs, vs, H7, w7, weak J7, l4, l3, l1, ⟨ob, es, ep, l2, hexd, hdat, hkeys, hpairs, hnod⟩, rv⟩
      | true =>
        have q7' : tk σ6 H7 fun y H6 => te σ6 H6 fun z H7 => ∃ k, y = kV k ∧ ∃ m', m' < n ∧ W (i + 1) m' (putK kvs k z) H7 := by simpa using q7
        have s3 := hk' _ s7 σ6 H7 _ J7 q7'
        rw [eP, eW, eA, eX] at s3
        show wpAny _ _ _ _ _ _
        refine wpAny_mono s3 (fun yv s8 ⟨y, H8, J8, r8, q8⟩ => ?_) fun _ _ z => z
        have s4' := he' _ s8 σ6 H8 _ J8 q8
        rw [eP, eW, eA, eX] at s4'
        refine wpAny_mono s4' (fun zv s9 ⟨z, H9, J9, r9, ky, ey, m', hm, w9⟩ => ?_) fun _ _ z => z
        subst ey
        obtain ⟨J9a, l1, l2, l3, l4⟩ := low J9
        refine wpAny_dictSet_pairs (knd := mixKind X.prog X.w) (hsz := by rw [← rv.length]; exact hyl) (kV_is r8) (⟨ob, es, ep, l2, hexd, hdat, hkeys, hpairs, hnod⟩ : s9.heap.DictOf (mixKind X.prog X.w) s2.heap.objs.size vs) fun h' hD' hs' => ?_
        have J10 : Inv Y [] (cSt own fr σ) H9 { s9 with heap := h', toks := s9.toks + 1 } := by
          refine (weak J9a).turned (t' := s9.toks + 1) (it := s2.heap.objs.size) (fun b o hb e => (hs'.2 b hb).trans e) l1 (by rw [eL]; exact dC) (.inr hD0) cellN fun p hp => ?_
          have : p ∈ ([] : List (Addr × Obj)) := by rw [← hY] at hp; exact hp
          exact nomatch this
        refine ⟨m', hm, i + 1, putK kvs ky z, stored vs ky zv, H9, w9, J10, ?_, l3, l1, hD', rv.put ky r9⟩
        exact T.keep _ _ _ l4 fun b hb o e => (hs'.2 b (fun z => dfp (z ▸ hb))).trans e
  exact codeAny_compStart_dict loop (T.self X.A 0 _ _ _ st3 loop)
/-- name = {kx: vx for tg in iter if ..} -/
theorem ps_setD {spos pos' : Pos} {i : Nat} {x : Str} (own : List Str) (fr : List Nat) (hN : X.N.Nodup) (hix : X.N[i]? = some x) (hx : X.env.scope.names.lookup x = some .local) (hc : X.calm = true) (S : CompSc X own fr sc) (gk : GK own.length g) (hi : PI X tg iter wi)
    (hg : ∀ s H fp, PG (cxC X own fr sc s H fp) tg g) (ht : ∀ s H fp, PIfs (cxC X own fr sc s H fp) ifs tt) (hk : ∀ s H fp, PE (cxC X own fr sc s H fp) kx tk) (he : ∀ s H fp, PE (cxC X own fr sc s H fp) vx te)
    (hsw : swapsWith (.DictComp kx vx [⟨tg, iter, ifs, 0⟩] sc pos) (some (.Name x pos')) spos.line X.env = pure true := by rfl)
    (hs : ∀ x, foldedSetIterable iter X.env x = pure x := by intro _; rfl) : PS X (.Assign [.Name x pos'] (.DictComp kx vx [⟨tg, iter, ifs, 0⟩] sc pos) spos) (tAsg (tDC own fr wi g tt tk te) (gName i)) := by
  intro pins s σ H D I h
  rw [exec_Assign_Name_used _ _ _ _ hsw]
  apply wpAny_bind; apply wpAny_standAt; apply wpAny_bind
  show wpAny _ _ (comprehension (.DictComp kx vx [⟨tg, iter, ifs, 0⟩] sc pos) sc X.env _ newDict false (eval iter X.env) (some (assign (.Name x pos') X.env)) >>= _) _ _ s
  apply wpAny_bind
  have hclos : closureFor sc X.env = pure (clOf X.env sc.names []) := closureFor_of fun y hy hf => I.ok.has y.1 (by
    rcases S.fre y hy hf with q | q
    · exact .inl q
    · exact .inr q)
  refine wpAny_mono (wpAny_comprehension_free (use := some (assign (.Name x pos') X.env)) (Q := fun _ s' => SP X pins D .next s') rfl hs hclos S.kind (fun y hy hl => lookup_of_mem_nd S.nd (by rw [← hl]; exact hy)) ?_) (fun _ s' q => wpAny_pure (wpAny_pure q)) fun _ _ z => z
  refine thn (hi pins s σ H _ I h) fun v s1 h1 => thn h1 fun itv s2 h2 => ?_
  obtain ⟨it, fp, tn, J, H2, e, I2, T, st2, f2, L⟩ := h2
  subst e
  exact dc_core hc S gk hg ht hk he I2 T st2 f2 L fun D0 C s' ns le h => stored_use (R := D.nx) I2 hN hix hx ns le h
end
end L2
namespace L2
open PySem PySem.Spec PyProof.Rows
theorem dc_list {K : PySem.W.Frag} {a : Addr} {xs : List V} {own : List Str} {fr : List Nat} {g : TG} {tt : TT} {tk te : TE} {σ : St} {Q : VK} {H : Hp} (Pv : Nat → List (Key × V) → Hp → Prop) (h0 : Pv 0 [] H) (hlen : ∀ i kvs H, i ≤ xs.length → Pv i kvs H → kvs.length ≤ sizeLine)
    (hl : ∀ i kvs H, i ≤ xs.length → Pv i kvs H → SqL K H a xs)
    (hs : ∀ i x kvs H (R : List (Key × V) → Hp → Prop), xs[i]? = some x → Pv i kvs H → (∀ kvs' H', Pv (i + 1) kvs' H' → R kvs' H') → g x (cSt own fr σ) H fun σ4 H4 => tt σ4 H4 fun b H5 => if b = true then tk σ4 H5 fun y H6 => te σ4 H6 fun z H7 => ∃ k, y = kV k ∧ R (putK kvs k z) H7 else R kvs H5)
    (hd : ∀ kvs H, Pv xs.length kvs H → ∀ D, H D = none → Q (.ref D) (upd H D (.dK kvs))) : dcLoop own fr g tt tk te σ Q (Itl K a) H := by
  refine ⟨fun i m kvs H => m = xs.length - i ∧ i ≤ xs.length ∧ Pv i kvs H, ⟨xs.length, rfl, Nat.zero_le _, h0⟩, ?_⟩
  rintro i m kvs H2 ⟨rfl, hi, p⟩
  refine ⟨hlen i kvs H2 hi p, ?_⟩
  have q := hl i kvs H2 hi p
  by_cases h : i < xs.length
  · refine .inr ⟨⟨xs, xs[i], q, by simp [h]⟩, fun x H3 hy => ?_⟩
    obtain ⟨rfl, hy⟩ := hy
    have z := hs i x kvs _ (fun kvs' H' => ∃ m', m' < xs.length - i ∧ (m' = xs.length - (i + 1) ∧ i + 1 ≤ xs.length ∧ Pv (i + 1) kvs' H')) (hy xs q) p fun kvs' H' q => ⟨xs.length - (i + 1), by omega, rfl, h, q⟩
    exact z
  · have e : i = xs.length := by omega
    subst e
    exact .inl ⟨⟨xs, q, Nat.le_refl _⟩, hd kvs H2 p⟩
/-! ### a dict of texts, each with a list -/
def tab : List Str → List Addr → List (Key × V)
  | z :: zs, l :: ls => (Sum.inr z, V.ref l) :: tab zs ls
  | _, _ => []
theorem tab_len : ∀ {zs : List Str} {ls : List Addr}, ls.length = zs.length → (tab zs ls).length = zs.length
  | [], [], _ => rfl
  | [], _ :: _, h => by simp at h
  | _ :: _, [], h => by simp at h
  | z :: zs, l :: ls, h => by
    show (tab zs ls).length + 1 = zs.length + 1
    rw [tab_len (by simpa using h)]
theorem tab_snoc : ∀ {zs : List Str} {ls : List Addr} (z : Str) (l : Addr), ls.length = zs.length → tab (zs ++ [z]) (ls ++ [l]) = tab zs ls ++ [(Sum.inr z, V.ref l)]
  | [], [], _, _, _ => rfl
  | [], _ :: _, _, _, h => by simp at h
  | _ :: _, [], _, _, h => by simp at h
  | x :: zs, y :: ls, z, l, h => by
    show (Sum.inr x, V.ref y) :: tab (zs ++ [z]) (ls ++ [l]) = _
    rw [tab_snoc z l (by simpa using h)]
    rfl
theorem tab_none : ∀ {zs : List Str} {ls : List Addr} {z : Str}, z ∉ zs → valV (tab zs ls) (Sum.inr z : Key) = none
  | [], _, _, _ => rfl
  | _ :: _, [], _, _ => rfl
  | x :: zs, y :: ls, z, h => by
    have h1 : ¬ x = z := fun e => h (e ▸ List.mem_cons_self)
    show valV ((Sum.inr x, V.ref y) :: tab zs ls) _ = _
    rw [valV_neg (fun e => h1 (Sum.inr.inj e))]
    exact tab_none fun m => h (List.mem_cons_of_mem _ m)
theorem tab_at : ∀ {zs : List Str} {ls : List Addr} {i : Nat} {z : Str} {l : Addr}, zs.Nodup → zs[i]? = some z → ls[i]? = some l → valV (tab zs ls) (Sum.inr z : Key) = some (.ref l)
  | [], _, _, _, _, _, h, _ => by simp at h
  | _ :: _, [], _, _, _, _, _, h => by simp at h
  | x :: zs, y :: ls, 0, z, l, _, h1, h2 => by
    have e1 : x = z := by simpa using h1
    have e2 : y = l := by simpa using h2
    subst e1 e2
    exact valV_pos rfl
  | x :: zs, y :: ls, i + 1, z, l, nd, h1, h2 => by
    rw [List.nodup_cons] at nd
    have h1' : zs[i]? = some z := by simpa using h1
    have ne : ¬ x = z := fun e => nd.1 (e ▸ List.mem_of_getElem? h1')
    show valV ((Sum.inr x, V.ref y) :: tab zs ls) _ = _
    rw [valV_neg (fun e => ne (Sum.inr.inj e))]
    exact tab_at nd.2 h1' (by simpa using h2)
theorem nd_at {α : Type} {l : List α} (nd : l.Nodup) {i j : Nat} {x : α} (hi : l[i]? = some x) (hj : l[j]? = some x) : i = j := by
  obtain ⟨h1, e1⟩ := List.getElem?_eq_some_iff.mp hi
  obtain ⟨h2, e2⟩ := List.getElem?_eq_some_iff.mp hj
  exact (List.getElem_inj nd).mp (e1.trans e2.symm)
end L2

set_option Elab.async false
set_option linter.all false
set_option maxRecDepth 100000
set_option maxHeartbeats 4000000
namespace L2
open PySem PySem.Spec PyProof.Rows
/-! ### sorted of a dict whose keys are texts -/
theorem strs_all : ∀ {us : List Value} {zs : List Str}, us.length = zs.length → (∀ (j : Nat) (u : Value), us[j]? = some u → ∃ z t, zs[j]? = some z ∧ u = .str z t) → StrsAre us zs
  | [], [], _, _ => .nil
  | [], _ :: _, h, _ => by simp at h
  | _ :: _, [], h, _ => by simp at h
  | u :: us, z :: zs, h, k => by
    obtain ⟨z', t, e1, e2⟩ := k 0 u rfl
    cases e1
    subst e2
    exact .cons z t (strs_all (by simpa using h) fun j w e => by simpa using k (j + 1) w (by simpa using e))
section
variable {prog : Program} {w : World} {A : Around} {E : Value → Shared → Prop} {s : Shared}
/-- the tree of list.sort behind a list that was just laid -/
theorem sorts_new {h : Heap} {tk : Nat} {us : List Value} {zs : List Str} {Q : Value → Shared → Prop} (hz : StrsAre us zs) (few : us.length < 64)
    (q : ∀ (out : List Value) (n : Nat) (h2 : Heap), StrsAre out (srt zs) → (∀ b o, h.get? b = some o → h2.get? b = some o) → h2.get? h.objs.size = some { cls := .type "list", data := .seq out.toArray n } → Q (.ref h.objs.size) { s with heap := h2, toks := tk }) :
    wpAny (model prog w) A (call (.builtin "list.sort") [.ref h.objs.size]) (fun _ s' => Q (.ref h.objs.size) s') E { s with heap := h.push { cls := .type "list", data := .seq us.toArray }, toks := tk } := by
  have at0 : (h.push { cls := .type "list", data := .seq us.toArray }).get? h.objs.size = some (seqObj "list" us.toArray 0) := Heap.get?_push_size _ rfl
  refine wpAny_call_entry PySem.F.slot_list_sort ⟨_, at0, rfl⟩ PySem.F.entry_list_sort ?_ (args_list_sort _)
  refine list_sort_treeK strKind_oneLt at0 hz.keysOf (fun a b r e => keyKind_strs (by rw [← e]; exact hz)) few fun st p1 p2 => ⟨_, rfl, ?_⟩
  obtain ⟨ss, c1, c2, c3⟩ := sorted_out_str hz p1 p2
  have e := srt_of c2 (sorted_pw ss c3)
  subst e
  obtain ⟨n, hn⟩ := sortedHeap_at (out := (arrOf st).map (·.2)) at0
  refine q _ n _ c1 (fun b o eb => ?_) (by rw [hn])
  have lt : b < h.objs.size := Heap.lt_size eb
  rw [sortedHeap_old (Nat.ne_of_lt lt) (by rw [Heap.size_push]; exact Nat.lt_succ_of_lt lt)]
  exact Heap.get?_push_of_some _ eb
end
/-- a new object at a place where nothing stood -/
theorem Inv.laidN {X : Cx} {pins : List (Addr × Obj)} {σ : St} {H : Hp} {s : Shared} {h' : Heap} {a : Addr} {o : HO} {t' : Nat} (I : Inv X pins σ H s) (k : ∀ b u, s.heap.get? b = some u → h'.get? b = some u) (hp : s.heap.get? a = none) (hn : H a = none) (new : ObjOk X.prog X.w (upd H a o) h' a o) :
    Inv X pins σ (upd H a o) { s with heap := h', toks := t' } := by
  refine I.un ⟨fun b u q _ _ _ => k b u q, fun b u q _ _ _ => ⟨u.slots, k b u q⟩, fun b u q n _ => ?_, fun b u q _ => ⟨u, k b u q⟩, fun b xs q => ?_, fun b u xs q => ?_, fun b ps q => ⟨#[], ?_⟩⟩ fun b u e => ?_
  · rw [upd_ne (fun z => by rw [z, hp] at q; cases q)]; exact n
  · rw [upd_ne (ne_of_none q hn)]; exact q
  · rw [upd_ne (ne_of_none q hn)]; exact q
  · rw [upd_ne (ne_of_none q hn), q]; simp
  · by_cases hb : b = a
    · subst hb; rw [upd_same] at e; cases e; exact new
    · rw [upd_ne hb] at e
      refine (I.hok b u e).stay (fun c v _ q => k c v q) (fun c q => ?_) fun c xs q => ?_
      · rw [upd_ne (ne_of_none q hn)]; exact q
      · rw [upd_ne (ne_of_none q hn)]; exact q
/-- the texts that are a dict's keys -/
def KTxt (kvs : List (Key × V)) (zs : List Str) : Prop := kvs.map (·.1) = zs.map Sum.inr
section
variable {X : Cx}
theorem call_sorted_dk (hc : X.calm = true) : CallR X (.builtin "sorted") (fun xs H Q => ∃ (p : Addr) (kvs : List (Key × V)) (zs : List Str), xs = [.ref p] ∧ H p = some (.dK kvs) ∧ KTxt kvs zs ∧ zs.length < 64 ∧ ∀ l, H l = none → Q (.ref l) (upd H l (.lst ((srt zs).map V.str)))) := by
  intro pins s σ H xs us Q I r h
  obtain ⟨p, kvs, zs, rfl, hp, hk, few, q⟩ := h
  obtain ⟨u, rfl, rx⟩ := vals1 r
  cases rx
  obtain ⟨z, lo, vs, rel, dd⟩ := dk_of I.hok hp
  obtain ⟨ep, da⟩ := dd.dictAt
  have hl : vs.length = zs.length := by rw [← rel.length, ← List.length_map (f := (·.1)), hk, List.length_map]
  refine Calls.call_function_entry kind_sorted plain_sorted entry_sorted (args_sorted1 _) ?_
  unfold Builtin.«sorted»
  apply wpAny_bind (m := checkCount "sorted" 1 1 _)
  apply wpAny_pure
  apply wpAny_bind
  refine PySem.W.kdu_collect (PySem.W.kdl_dict (knd := mixKind X.prog X.w) (kvs := vs) (ep := ep) lo) (A := X.A.in1) (by exact I.ok.hd hc) da (by rw [hl]; exact Nat.le_trans (Nat.le_of_lt few) (by decide)) fun h1 tk acc keep items => ?_
  have la : acc.toList.length = zs.length := by rw [Array.length_toList, items.1, hl]
  have txt : StrsAre acc.toList zs := strs_all la fun j u e => by
    obtain ⟨k, x, e1, e2⟩ := items.2 j u (by rw [← Array.getElem?_toList]; exact e)
    have e3 : (vs.map (·.1))[j]? = some k := by rw [List.getElem?_map, e1]; rfl
    rw [← rel.keys, hk, List.getElem?_map] at e3
    obtain ⟨z', e4, rfl⟩ := Option.map_eq_some_iff.mp e3
    have e2' : keyIs (Sum.inr z') u = true := e2
    obtain ⟨i, t, q1, q2⟩ | ⟨y, t, q1, q2⟩ := keyIs_shape e2'
    · cases q1
    · cases q1
      exact ⟨z', t, e4, q2⟩
  apply wpAny_bind
  refine wpAny_newList ?_ (by rw [la]; exact Nat.le_trans (Nat.le_of_lt few) (by decide))
  apply wpAny_bind
  apply wpAny_holding
  refine wpAny_mono (sorts_new (prog := X.prog) (w := X.w) (s := s) (h := h1) (tk := tk) (Q := EP X pins σ Q) txt (by rw [la]; exact few) fun out n h2 o1 o2 o3 => ?_) (fun _ _ z => wpAny_pure ⟨_, rfl, z⟩) fun _ _ z => z
  have no : s.heap.get? h1.objs.size = none := by
    cases e : s.heap.get? h1.objs.size with
    | none => rfl
    | some o => exact absurd (Heap.lt_size (keep _ _ e)) (Nat.lt_irrefl _)
  have noH : H h1.objs.size = none := by
    cases e : H h1.objs.size with
    | none => rfl
    | some o =>
      obtain ⟨u, eu⟩ := (I.hok _ _ e).there
      rw [no] at eu; cases eu
  refine ⟨.ref h1.objs.size, _, I.laidN (t' := tk) (o := .lst ((srt zs).map V.str)) (fun b o e => o2 _ _ (keep _ _ e)) no noH ?_, rfl, q _ noH⟩
  refine ⟨by rw [List.length_map, srt_len]; exact Nat.le_trans (Nat.le_of_lt few) (by decide), out, n, of_strs o1, o3⟩
end
end L2

set_option Elab.async false
set_option linter.all false
set_option maxRecDepth 100000
set_option maxHeartbeats 4000000
namespace L2
open PySem PySem.Spec PyProof.Rows
/-! ### what a place reaches -/
inductive Rch (ps : List (Str × Str)) : Str → Str → Prop where
  | here (a : Str) : Rch ps a a
  | on {a b c : Str} (h : Rch ps a b) (t : (b, c) ∈ ps) : Rch ps a c
theorem Rch.trans {ps : List (Str × Str)} {a b c : Str} (h : Rch ps a b) (k : Rch ps b c) : Rch ps a c := by
  induction k with
  | here => exact h
  | on _ t ih => exact ih.on t
theorem Rch.one {ps : List (Str × Str)} {a b : Str} (t : (a, b) ∈ ps) : Rch ps a b := (Rch.here a).on t
theorem Rch.isin {ns : List Str} {ps : List (Str × Str)} (hi : ∀ p ∈ ps, p.1 ∈ ns ∧ p.2 ∈ ns) {a b : Str} (h : Rch ps a b) (ha : a ∈ ns) : b ∈ ns := by
  cases h with
  | here => exact ha
  | on _ t => exact (hi _ t).2
/-- a set that has the place and is left by no tie has all that it reaches -/
theorem Rch.stays {ps : List (Str × Str)} {S : Str → Prop} {a b : Str} (h : Rch ps a b) (ha : S a) (hc : ∀ p ∈ ps, S p.1 → S p.2) : S b := by
  induction h with
  | here => exact ha
  | on _ t ih => exact hc _ t ih
open Classical in
noncomputable def rch (ns : List Str) (ps : List (Str × Str)) (a : Str) : List Str := srt (ns.filter fun z => decide (Rch ps a z))
theorem perm_of {α : Type} [DecidableEq α] : ∀ {l m : List α}, l.Nodup → m.Nodup → (∀ x, x ∈ l ↔ x ∈ m) → l.Perm m := fun hl hm h => (List.perm_ext_iff_of_nodup hl hm).mpr h
theorem srt_same {l m : List Str} (hl : l.Nodup) (hm : m.Nodup) (h : ∀ x, x ∈ l ↔ x ∈ m) : srt l = srt m :=
  srt_of ((srt_perm l).trans (perm_of hl hm h)) (srt_pw l)
theorem srt_mem {l : List Str} {x : Str} : x ∈ srt l ↔ x ∈ l := (srt_perm l).mem_iff
theorem srt_nd {l : List Str} (h : l.Nodup) : (srt l).Nodup := (srt_perm l).nodup_iff.mpr h
theorem rch_mem {ns : List Str} {ps : List (Str × Str)} {a z : Str} : z ∈ rch ns ps a ↔ z ∈ ns ∧ Rch ps a z := by
  unfold rch
  rw [srt_mem, List.mem_filter]
  simp
theorem rch_of {ns zs : List Str} {ps : List (Str × Str)} {a : Str} (hn : ns.Nodup) (hz : zs.Nodup) (hi : ∀ p ∈ ps, p.1 ∈ ns ∧ p.2 ∈ ns) (ha : a ∈ ns) (h : ∀ z, z ∈ zs ↔ Rch ps a z) : srt zs = rch ns ps a := by
  refine srt_same hz (hn.filter _) fun x => ?_
  rw [h, List.mem_filter]
  simp only [decide_eq_true_eq]
  exact ⟨fun r => ⟨r.isin hi ha, r⟩, fun r => r.2⟩
theorem rch_srt {ns : List Str} {ps : List (Str × Str)} {a : Str} (hn : ns.Nodup) : rch (srt ns) ps a = rch ns ps a := by
  unfold rch
  refine srt_same ((srt_nd hn).filter _) (hn.filter _) fun x => ?_
  rw [List.mem_filter, List.mem_filter, srt_mem]
/-- to where ties lead from a place, in order -/
def outs (ps : List (Str × Str)) (a : Str) : List Str := (ps.filter fun p => decide (p.1 = a)).map (·.2)
theorem outs_mem {ps : List (Str × Str)} {a b : Str} : b ∈ outs ps a ↔ (a, b) ∈ ps := by
  unfold outs
  rw [List.mem_map]
  constructor
  · rintro ⟨p, hp, rfl⟩
    obtain ⟨h1, h2⟩ := List.mem_filter.mp hp
    have : p.1 = a := by simpa using h2
    rw [← this]; exact h1
  · intro h
    exact ⟨(a, b), List.mem_filter.mpr ⟨h, by simp⟩, rfl⟩
theorem outs_snoc (ps : List (Str × Str)) (p : Str × Str) (a : Str) : outs (ps ++ [p]) a = if p.1 = a then outs ps a ++ [p.2] else outs ps a := by
  unfold outs
  rw [List.filter_append, List.map_append]
  by_cases h : p.1 = a <;> simp [h]
theorem outs_len (ps : List (Str × Str)) (a : Str) : (outs ps a).length ≤ ps.length := by
  unfold outs
  rw [List.length_map]
  exact List.length_filter_le _ _
theorem nd_le {l m : List Str} (hl : l.Nodup) (h : ∀ x ∈ l, x ∈ m) : l.length ≤ m.length := by
  induction l generalizing m with
  | nil => exact Nat.zero_le _
  | cons x l ih =>
    rw [List.nodup_cons] at hl
    have hx := h x List.mem_cons_self
    have q := ih (m := m.erase x) hl.2 fun y hy => (List.mem_erase_of_ne (fun e : y = x => hl.1 (e ▸ hy))).mpr (h y (List.mem_cons_of_mem _ hy))
    rw [List.length_erase_of_mem hx] at q
    have : 0 < m.length := List.length_pos_of_mem hx
    simp only [List.length_cons]
    omega
end L2

set_option Elab.async false
set_option linter.all false
set_option maxRecDepth 100000
set_option maxHeartbeats 4000000
namespace L2
open PySem PySem.Spec PyProof.Rows
/-! ### for k, x in enumerate(list) -/
def Ite (K : PySem.W.Frag) (a : Addr) : It :=
  ⟨fun i H => ∃ xs x, SqL K H a xs ∧ xs[i]? = some x, fun i H x H' => ∃ q y, H q = none ∧ (∀ xs, SqL K H a xs → xs[i]? = some y) ∧ x = .ref q ∧ H' = upd H q (.tup [.int i, y]), fun i H => ∃ xs, SqL K H a xs ∧ xs.length ≤ i⟩
theorem turn_enum {P : Program} {w : World} {K : PySem.W.Frag} {elts : List Expr} {x1} {tp : Pos} (a e it : Addr) (ne : e ≠ it) : Turn P w K (.Tuple elts x1 tp) (Ite K a) [e, it] e (fun i h => (∃ old, IsEnum h e it i old) ∧ h.IsListIter it a i) where
  mem := by simp
  obj := fun i h st b hb => by
    obtain ⟨⟨old, he⟩, o, ho, c, d⟩ := st
    rcases List.mem_cons.mp hb with q | q
    · subst q; exact ⟨_, he, fun v z => nomatch z⟩
    · have q' : b = it := by simpa using q
      subst q'; exact ⟨o, ho, fun v z => by rw [d] at z; cases z⟩
  keep := fun i h h' st k => ⟨let ⟨old, he⟩ := st.1; ⟨old, k e (by simp) _ he⟩, st.2.at fun o q => k it (by simp) o q⟩
  item := by
    intro X hP hw hK hc i pins s σ H E I hf st hg
    subst hP hw hK
    obtain ⟨⟨old, he⟩, hit⟩ := st
    obtain ⟨xs, x, hq, hx⟩ := hg
    obtain ⟨its, rv, p, hz⟩ := I.list hq
    obtain ⟨u, hu, ru⟩ := rv.get hx
    have f1 := hf e (by simp)
    have f2 := hf it (by simp)
    refine wpAny_pyNext_enum_item he hit p.isList (x := u) (by simpa using hu) ne fun h1 o1 i1 t1 z1 k1 => ⟨_, rfl, ?_⟩
    refine wpAny_letOwnedTupleGo_enum o1 fun h2 e2 sb => ?_
    have nq : ∀ {b : Addr} {o : Obj}, s.heap.get? b = some o → b ≠ s.heap.objs.size := fun {b o} q => Nat.ne_of_lt (Heap.lt_size q)
    have ltE : @LT.lt Nat _ e s.heap.objs.size := Heap.lt_size he
    have ltI : @LT.lt Nat _ it s.heap.objs.size := let ⟨o, q, _⟩ := hit; Heap.lt_size q
    have qe : s.heap.objs.size ≠ e := fun z => by have z' : @Eq Nat s.heap.objs.size e := z; omega
    have hn : H s.heap.objs.size = none := I.hok.fresh (Nat.le_refl _)
    have kk : ∀ b o, b ≠ e → b ≠ it → s.heap.get? b = some o → h2.get? b = some o := fun b o n1 n2 q => (sb.2 b n1).trans (k1 b o n1 n2 q)
    have tq : h2.get? s.heap.objs.size = some { cls := .type "tuple", data := .seq #[.int i s.toks, u] } := (sb.2 _ qe).trans t1
    have hH : ∀ b o, H b = some o → b ≠ e ∧ b ≠ it ∧ b ≠ s.heap.objs.size := fun b o q => ⟨ne_of_none q f1.1, ne_of_none q f2.1, ne_of_none q hn⟩
    refine ⟨.ref s.heap.objs.size, upd H s.heap.objs.size (.tup [.int i, x]), ?_, rfl, ⟨_, x, hn, fun ys hy => by rw [I.list_inj hy hq]; exact hx, rfl, rfl⟩, ⟨⟨u, e2⟩, i1.at fun o q => (sb.2 _ (Ne.symm ne)).trans q⟩, fun b hb => ?_⟩
    · refine Inv.call' (ch := [e, it]) I (s' := { s with heap := h2, toks := s.toks + 1 }) rfl ⟨fun b ob q n hb hx => ?_, fun b ob q n hb hx => ?_, fun b ob q n hx => ?_, fun b ob q hx => ?_, fun b ys q => ?_, fun b ob ys q => ?_, fun b ps q => ⟨#[], ?_⟩⟩ ?_ I.bare fun b hb => ?_
      · exact kk b ob (fun z => hx (by simp [z])) (fun z => hx (by simp [z])) q
      · exact ⟨ob.slots, kk b ob (fun z => hx (by simp [z])) (fun z => hx (by simp [z])) q⟩
      · rw [upd_ne (nq q)]; exact n
      · exact ⟨ob, kk b ob (fun z => hx (by simp [z])) (fun z => hx (by simp [z])) q⟩
      · rw [upd_ne (hH _ _ q).2.2]; exact q
      · rw [upd_ne (hH _ _ q).2.2]; exact q
      · rw [upd_ne (hH _ _ q).2.2, q]; simp
      · intro b ob q
        by_cases hb : b = s.heap.objs.size
        · subst hb
          rw [upd_same] at q
          cases q
          exact ⟨by show 2 ≤ sizeLine; decide, [.int i s.toks, u], .cons ⟨_, rfl⟩ (.cons ru .nil), ⟨_, tq, rfl, 0, rfl⟩⟩
        · rw [upd_ne hb] at q
          refine (I.hok b ob q).stay (fun c v hc g => ?_) (fun c g => ?_) fun c ys g => ?_
          · refine kk c v ?_ ?_ g
            · rcases hc with z | z
              · rw [z]; exact (hH _ _ q).1
              · exact (hH _ _ z).1
            · rcases hc with z | z
              · rw [z]; exact (hH _ _ q).2.1
              · exact (hH _ _ z).2.1
          · rw [upd_ne (hH _ _ g).2.2]; exact g
          · rw [upd_ne (hH _ _ g).2.2]; exact g
      · rcases List.mem_cons.mp hb with z | z
        · subst z; exact ⟨f1.2.2.2.1, f1.2.1, f1.2.2.2.2.1, f1.2.2.2.2.2⟩
        · have z' : b = it := by simpa using z
          subst z'; exact ⟨f2.2.2.2.1, f2.2.1, f2.2.2.2.2.1, f2.2.2.2.2.2⟩
    · have lt : b ≠ s.heap.objs.size := by
        rcases List.mem_cons.mp hb with z | z
        · rw [z]; exact Nat.ne_of_lt ltE
        · have z' : b = it := by simpa using z
          rw [z']; exact Nat.ne_of_lt ltI
      rw [upd_ne lt]; exact (hf b hb).1
  done := by
    intro X hP hw hK hc i pins s σ H E I hf st hg
    subst hP hw hK
    obtain ⟨⟨old, he⟩, hit⟩ := st
    obtain ⟨xs, hq, hx⟩ := hg
    obtain ⟨its, rv, p, hz⟩ := I.list hq
    obtain ⟨f0, f1, f2, f3, f4, f5⟩ := hf it (by simp)
    have hl := rv.length
    exact wpAny_pyNext_enum_end (I.ok.hd hc) he hit p.isList (by simp; omega) fun h' eb => ⟨rfl, I.turned (t' := s.toks) (fun b o hb q => eb b o hb q) f0 f1 f3 f4 f5⟩
  self := fun _ _ _ _ _ st h => let ⟨⟨_, he⟩, _⟩ := st; wpAny_pyIter_enum he h
def iEnum (K : PySem.W.Frag) (ta : TA) : TI := fun σ H R => ta σ H fun vs H1 => ∃ a, vs = [.ref a] ∧ (∃ xs, SqL K H1 a xs) ∧ R (Ite K a) H1
section
variable {X : Cx}
theorem pi_enum {elts : List Expr} {x1} {tp : Pos} {l : Expr} {ta : TA} {p pos : Pos} (hg : Gl X "enumerate") (hm : X.mg "enumerate" = none) (ha : PA X [l] ta) (hs : starEach [l] X.env = [(false, eval l X.env)] := by rfl) : PI X (.Tuple elts x1 tp) (.Call (.Name "enumerate" p) [l] [] pos) (iEnum X.K ta) := by
  intro pins s σ H R I h
  refine wpAny_Call_Name_kw (ld_blt I hg hm PyProof.Rows.boot_enumerate ?_)
  refine PyProof.Rows.callWith_type1 (thn (ha pos pins s σ H _ I h) fun us s1 ⟨vs, H1, I1, r1, q1⟩ => ?_) hs rfl
  obtain ⟨a, rfl, ⟨xs, hq⟩, q⟩ := q1
  obtain ⟨u, rfl, ru⟩ := vals1 r1
  cases ru
  obtain ⟨its, rv, pl, hz⟩ := I1.list hq
  refine call_enumerate_list pl.isList fun h' e1 i1 z1 k1 => ?_
  refine wpAny_pyIter_enum e1 ?_
  have ne : s1.heap.objs.size + 1 ≠ s1.heap.objs.size := Nat.succ_ne_self _
  refine ⟨s1.heap.objs.size + 1, [s1.heap.objs.size + 1, s1.heap.objs.size], _, _, H1, rfl, I1.kept (t' := s1.toks) k1, turn_enum a _ _ ne, ⟨⟨_, e1⟩, i1⟩, fun b hb => ?_, q⟩
  have le : @LE.le Nat _ s1.heap.objs.size b := by
    rcases List.mem_cons.mp hb with z | z
    · rw [z]; exact Nat.le_succ _
    · have z' : b = s1.heap.objs.size := by simpa using z
      rw [z']; exact Nat.le_refl _
  exact I1.fpOk le (I1.hok.fresh le)
end
theorem for_enum {K : PySem.W.Frag} {a : Addr} {xs : List V} {g : TG} {tb : TS} {D : Ends} {σ : St} {H : Hp} (Pv : Nat → St → Hp → Prop) (h0 : Pv 0 σ H) (hl : ∀ i σ H, i ≤ xs.length → Pv i σ H → SqL K H a xs)
    (hs : ∀ i x σ H q, xs[i]? = some x → Pv i σ H → H q = none → g (.ref q) σ (upd H q (.tup [.int i, x])) fun σ2 H2 => tb { D with nx := Pv (i + 1), ct := Pv (i + 1), bk := D.nx } σ2 H2) (hd : ∀ σ H, Pv xs.length σ H → D.nx σ H) :
    ∃ W : Nat → Nat → St → Hp → Prop, (∃ m, W 0 m σ H) ∧ ∀ i m σ H, W i m σ H →
      ((Ite K a).stop i H ∧ D.nx σ H) ∨ ((Ite K a).go i H ∧ ∃ N : St → Hp → Prop, (∀ σ' H', N σ' H' → ∃ m', m' < m ∧ W (i + 1) m' σ' H') ∧ ∀ x H', (Ite K a).yld i H x H' → g x σ H' fun σ2 H2 => tb { D with nx := N, ct := N, bk := D.nx } σ2 H2) := by
  refine ⟨fun i m σ H => m = xs.length - i ∧ i ≤ xs.length ∧ Pv i σ H, ⟨xs.length, by simp, Nat.zero_le _, h0⟩, ?_⟩
  rintro i m σ H ⟨rfl, hi, p⟩
  have q := hl i σ H hi p
  by_cases hlt : i < xs.length
  · refine .inr ⟨⟨xs, xs[i], q, by simp [hlt]⟩, Pv (i + 1), fun σ' H' p' => ⟨xs.length - (i + 1), by omega, rfl, hlt, p'⟩, fun x H' ⟨r, y, hr, hy, e1, e2⟩ => ?_⟩
    subst e1 e2
    exact hs i y σ _ r (hy xs q) p hr
  · have e : i = xs.length := by omega
    subst e
    exact .inl ⟨⟨xs, q, Nat.le_refl _⟩, hd σ H p⟩
end L2

set_option Elab.async false
set_option linter.all false
set_option maxRecDepth 100000
set_option maxHeartbeats 4000000
namespace L2
open PySem PySem.Spec PyProof.Rows
section
variable {X : Cx} {e k : Expr} {te tk : TE} {p2 pos : Pos}
end
end L2

set_option Elab.async false
set_option linter.all false
set_option maxRecDepth 100000
set_option maxHeartbeats 4000000
namespace L2
open PySem PySem.Spec PyProof.Rows
section
variable {X : Cx}
/-- a != b, lists of other lengths -/
def rNeLen (K : PySem.W.Frag) : R2 := fun x y H Q => ∃ p q xs ys, x = .ref p ∧ y = .ref q ∧ SqL K H p xs ∧ SqL K H q ys ∧ xs.length ≠ ys.length ∧ Q (.bl true) H
theorem op_ne_len (hu : X.A.units + 1 < cLine) : OpR X (compareOp .NotEq) (rNeLen X.K) := by
  intro pins s σ H x y v u Q I rx ry h
  obtain ⟨p, q, xs, ys, rfl, rfl, hp, hq, ne, fin⟩ := h
  cases rx
  cases ry
  obtain ⟨is, ri, pi, _⟩ := I.list hp
  obtain ⟨js, rj, pj, _⟩ := I.list hq
  refine PySem.EqBoolInt.of_rcne (SeqAt.RcNeAt.lists_lengths pi.isList pj.isList ?_ (by omega)) (fin_bl I fin rfl)
  simp only [List.size_toArray, bne_iff_ne]
  rw [← ri.length, ← rj.length]
  exact ne
end
end L2

set_option Elab.async false
set_option linter.all false
set_option maxRecDepth 100000
set_option maxHeartbeats 4000000
namespace L2
open PySem PySem.Spec PyProof.Rows
/-! ### ==, != of two lists, or two tuples, of flat items -/
def eqVs : List V → List V → Bool
  | [], [] => true
  | x :: xs, y :: ys => eqV x y && eqVs xs ys
  | _, _ => false
theorem eqVs_len : ∀ {xs ys : List V}, xs.length ≠ ys.length → eqVs xs ys = false
  | [], [], h => absurd rfl h
  | [], _ :: _, _ => rfl
  | _ :: _, [], _ => rfl
  | x :: xs, y :: ys, h => by
    unfold eqVs
    rw [eqVs_len (by simpa using h), Bool.and_false]
theorem eqVs_all : ∀ {xs ys : List V}, xs.length = ys.length → eqVs xs ys = (List.range xs.length).all fun j => eqV (xs.getD j .non) (ys.getD j .non)
  | [], [], _ => rfl
  | [], _ :: _, h => by simp at h
  | _ :: _, [], h => by simp at h
  | x :: xs, y :: ys, h => by
    unfold eqVs
    rw [eqVs_all (by simpa using h), List.length_cons, List.range_succ_eq_map, List.all_cons, List.all_map]
    rfl
theorem eqVs_str : ∀ (xs ys : List Str), eqVs (xs.map V.str) (ys.map V.str) = decide (xs = ys)
  | [], [] => rfl
  | [], _ :: _ => rfl
  | _ :: _, [] => rfl
  | x :: xs, y :: ys => by
    rw [List.map_cons, List.map_cons]
    unfold eqVs
    rw [eqVs_str xs ys]
    by_cases h : x = y
    · subst h
      simp [eqV]
    · simp [eqV, h]
section
variable {X : Cx} {pins : List (Addr × Obj)} {σ : St} {H : Hp} {s : Shared}
theorem eq_items {xs ys : List V} {A : Around} (fx : xs.all flatV = true) (fy : ys.all flatV = true) {is js : List Value} (ri : Vals xs is) (rj : Vals ys js) :
    ∀ j (h1 : j < is.toArray.size) (h2 : j < js.toArray.size), SeqAt.EqAt A s is.toArray[j] js.toArray[j] (eqV (xs.getD j .non) (ys.getD j .non)) := fun j h1 h2 => by
  have b1 : j < xs.length := by rw [ri.length]; simpa using h1
  have b2 : j < ys.length := by rw [rj.length]; simpa using h2
  obtain ⟨u', e1, r1⟩ := ri.get (List.getElem?_eq_getElem b1)
  obtain ⟨v', e2, r2⟩ := rj.get (List.getElem?_eq_getElem b2)
  have c1 : is.toArray[j] = u' := by
    rw [List.getElem_toArray]
    have := List.getElem?_eq_getElem (l := is) (i := j) (by simpa using h1)
    rw [this] at e1; exact Option.some.inj e1
  have c2 : js.toArray[j] = v' := by
    rw [List.getElem_toArray]
    have := List.getElem?_eq_getElem (l := js) (i := j) (by simpa using h2)
    rw [this] at e2; exact Option.some.inj e2
  have d1 : xs.getD j .non = xs[j] := by simp [List.getD, List.getElem?_eq_getElem b1]
  have d2 : ys.getD j .non = ys[j] := by simp [List.getD, List.getElem?_eq_getElem b2]
  rw [c1, c2, d1, d2]
  exact eqAt_V r1 r2 (List.all_eq_true.mp fx _ (List.getElem_mem b1)) (List.all_eq_true.mp fy _ (List.getElem_mem b2))
end
section
variable {X : Cx}
/-- two lists, or two tuples, of flat items -/
def rEqF (K : PySem.W.Frag) (neg : Bool) : R2 := fun x y H Q => ∃ p q xs ys, x = .ref p ∧ y = .ref q ∧ ((SqL K H p xs ∧ SqL K H q ys) ∨ (SqT K H p xs ∧ SqT K H q ys)) ∧ xs.all flatV = true ∧ ys.all flatV = true ∧ Q (.bl (if neg then !eqVs xs ys else eqVs xs ys)) H
theorem min_eq' {a b : Nat} (h : a = b) : min a b = a := by omega
theorem op_eq_flat (hu : X.A.units + 1 < cLine) : OpR X (compareOp .Eq) (rEqF X.K false) := by
  intro pins s σ H x y v u Q I rx ry h
  obtain ⟨p, q, xs, ys, rfl, rfl, h, fx, fy, fin⟩ := h
  cases rx
  cases ry
  rcases h with ⟨hp, hq⟩ | ⟨hp, hq⟩
  · obtain ⟨is, ri, pi, _⟩ := I.list hp
    obtain ⟨js, rj, pj, _⟩ := I.list hq
    by_cases el : xs.length = ys.length
    · refine SeqAt.eq_listAt pi.isList pj.isList (by simp only [List.size_toArray]; rw [← ri.length, ← rj.length]; exact el) (by omega) (eq_items fx fy ri rj) ?_
      refine fin_bl I fin ?_
      rw [List.size_toArray, ← ri.length]
      exact eqVs_all el
    · refine SeqAt.eq_list_lengthsAt pi.isList pj.isList ?_ (by omega) (fin_bl I fin ?_)
      · simp only [List.size_toArray, bne_iff_ne]
        rw [← ri.length, ← rj.length]
        exact el
      · exact eqVs_len el
  · obtain ⟨is, ri, pi, _⟩ := I.tuple hp
    obtain ⟨js, rj, pj, _⟩ := I.tuple hq
    refine SeqAt.eq_tupleAt pi pj (by omega) (eq_items fx fy ri rj) ?_
    refine fin_bl I fin ?_
    simp only [List.size_toArray]
    rw [← ri.length, ← rj.length]
    by_cases el : xs.length = ys.length
    · rw [min_eq' el, ← eqVs_all el]
      simp [el]
    · have : (xs.length == ys.length) = false := by simpa using el
      rw [this, Bool.and_false]
      exact eqVs_len el
theorem op_ne_flat (hu : X.A.units + 1 < cLine) : OpR X (compareOp .NotEq) (rEqF X.K true) := by
  intro pins s σ H x y v u Q I rx ry h
  obtain ⟨p, q, xs, ys, rfl, rfl, h, fx, fy, fin⟩ := h
  cases rx
  cases ry
  rcases h with ⟨hp, hq⟩ | ⟨hp, hq⟩
  · obtain ⟨is, ri, pi, _⟩ := I.list hp
    obtain ⟨js, rj, pj, _⟩ := I.list hq
    by_cases el : xs.length = ys.length
    · refine PySem.EqBoolInt.of_rcne (SeqAt.RcNeAt.lists pi.isList pj.isList (by simp only [List.size_toArray]; rw [← ri.length, ← rj.length]; exact el) (by omega) (eq_items fx fy ri rj)) ?_
      refine fin_bl I fin ?_
      rw [List.size_toArray, ← ri.length, ← eqVs_all el]
      rfl
    · refine PySem.EqBoolInt.of_rcne (SeqAt.RcNeAt.lists_lengths pi.isList pj.isList ?_ (by omega)) (fin_bl I fin ?_)
      · simp only [List.size_toArray, bne_iff_ne]
        rw [← ri.length, ← rj.length]
        exact el
      · rw [if_pos rfl, eqVs_len el]; rfl
  · obtain ⟨is, ri, pi, _⟩ := I.tuple hp
    obtain ⟨js, rj, pj, _⟩ := I.tuple hq
    refine PySem.EqBoolInt.of_rcne (SeqAt.RcNeAt.tuples pi pj (by omega) (eq_items fx fy ri rj)) ?_
    refine fin_bl I fin ?_
    simp only [List.size_toArray]
    rw [← ri.length, ← rj.length]
    by_cases el : xs.length = ys.length
    · rw [min_eq' el, ← eqVs_all el]
      simp [el]
    · have : (xs.length == ys.length) = false := by simpa using el
      rw [this, Bool.and_false, if_pos trivial, eqVs_len el]
/-- a list, or a tuple, of anything against one that is empty, or of another length -/
def rEqLen (K : PySem.W.Frag) : R2 := fun x y H Q => ∃ p q xs ys, x = .ref p ∧ y = .ref q ∧ SqL K H p xs ∧ SqL K H q ys ∧ xs.length ≠ ys.length ∧ Q (.bl false) H
theorem op_eq_len (hu : X.A.units + 1 < cLine) : OpR X (compareOp .Eq) (rEqLen X.K) := by
  intro pins s σ H x y v u Q I rx ry h
  obtain ⟨p, q, xs, ys, rfl, rfl, hp, hq, ne, fin⟩ := h
  cases rx
  cases ry
  obtain ⟨is, ri, pi, _⟩ := I.list hp
  obtain ⟨js, rj, pj, _⟩ := I.list hq
  refine SeqAt.eq_list_lengthsAt pi.isList pj.isList ?_ (by omega) (fin_bl I fin rfl)
  simp only [List.size_toArray, bne_iff_ne]
  rw [← ri.length, ← rj.length]
  exact ne
/-- xs == [] -/
def rEqNil (K : PySem.W.Frag) (neg : Bool) : R2 := fun x y H Q => ∃ p q xs, x = .ref p ∧ y = .ref q ∧ SqL K H p xs ∧ SqL K H q [] ∧ Q (.bl (if neg then !decide (xs = []) else decide (xs = []))) H
theorem op_eq_nil (hu : X.A.units + 1 < cLine) : OpR X (compareOp .Eq) (rEqNil X.K false) := by
  intro pins s σ H x y v u Q I rx ry h
  obtain ⟨p, q, xs, rfl, rfl, hp, hq, fin⟩ := h
  cases xs with
  | nil => exact op_eq_flat hu pins s σ H _ _ v u Q I rx ry ⟨p, q, [], [], rfl, rfl, .inl ⟨hp, hq⟩, rfl, rfl, fin⟩
  | cons z zs => exact op_eq_len hu pins s σ H _ _ v u Q I rx ry ⟨p, q, _, _, rfl, rfl, hp, hq, by simp, fin⟩
theorem op_ne_nil (hu : X.A.units + 1 < cLine) : OpR X (compareOp .NotEq) (rEqNil X.K true) := by
  intro pins s σ H x y v u Q I rx ry h
  obtain ⟨p, q, xs, rfl, rfl, hp, hq, fin⟩ := h
  cases xs with
  | nil => exact op_ne_flat hu pins s σ H _ _ v u Q I rx ry ⟨p, q, [], [], rfl, rfl, .inl ⟨hp, hq⟩, rfl, rfl, fin⟩
  | cons z zs => exact op_ne_len hu pins s σ H _ _ v u Q I rx ry ⟨p, q, _, _, rfl, rfl, hp, hq, by simp, fin⟩
/-! ### a tuple of texts in a list of such -/
/-- the tuples of a list -/
def TupsAt (H : Hp) (ts : List Addr) (cs : List (List Str)) : Prop := ts.length = cs.length ∧ ∀ (i : Nat) t c, ts[i]? = some t → cs[i]? = some c → H t = some (.tup (c.map V.str))
theorem TupsAt.same {H H' : Hp} {ts : List Addr} {cs : List (List Str)} (h : TupsAt H ts cs) (s : ∀ b o, H b = some o → H' b = some o) : TupsAt H' ts cs := ⟨h.1, fun i t c e1 e2 => s _ _ (h.2 i t c e1 e2)⟩
theorem TupsAt.snoc {H : Hp} {ts : List Addr} {cs : List (List Str)} {t : Addr} {c : List Str} (h : TupsAt H ts cs) (ht : H t = some (.tup (c.map V.str))) : TupsAt H (ts ++ [t]) (cs ++ [c]) := by
  refine ⟨by simp [h.1], fun i t' c' e1 e2 => ?_⟩
  by_cases hi : i < ts.length
  · rw [List.getElem?_append_left hi] at e1
    rw [List.getElem?_append_left (by rw [← h.1]; exact hi)] at e2
    exact h.2 i t' c' e1 e2
  · rw [List.getElem?_append_right (by omega)] at e1
    rw [List.getElem?_append_right (by have := h.1; omega)] at e2
    have hz : i - ts.length = 0 := by
      rcases Nat.eq_zero_or_pos (i - ts.length) with q | q
      · exact q
      · rw [List.getElem?_eq_none (by simp; omega)] at e1; cases e1
    rw [hz] at e1
    rw [← h.1, hz] at e2
    cases e1
    cases e2
    exact ht
theorem TupsAt.get {H : Hp} {ts : List Addr} {cs : List (List Str)} (h : TupsAt H ts cs) {i : Nat} {t : Addr} (e : ts[i]? = some t) : ∃ c, cs[i]? = some c ∧ H t = some (.tup (c.map V.str)) := by
  have hi : i < cs.length := by rw [← h.1]; exact (List.getElem?_eq_some_iff.mp e).1
  exact ⟨cs[i], List.getElem?_eq_getElem hi, h.2 i t _ e (List.getElem?_eq_getElem hi)⟩
def rInT (K : PySem.W.Frag) (neg : Bool) : R2 := fun x y H Q => ∃ (t l : Addr) (zs : List Str) (ts : List Addr) (cs : List (List Str)), x = .ref t ∧ y = .ref l ∧ H t = some (.tup (zs.map V.str)) ∧ SqL K H l (ts.map V.ref) ∧ TupsAt H ts cs ∧ Q (.bl (if neg then !decide (zs ∈ cs) else decide (zs ∈ cs))) H
theorem map_str_inj : ∀ {xs ys : List Str}, xs.map V.str = ys.map V.str → xs = ys
  | [], [], _ => rfl
  | [], _ :: _, h => by simp at h
  | _ :: _, [], h => by simp at h
  | x :: xs, y :: ys, h => by
    simp only [List.map_cons, List.cons.injEq, V.str.injEq] at h
    rw [h.1, map_str_inj h.2]
open Classical in
noncomputable def eqT (H : Hp) (zs : List Str) (u : Value) : Bool := match u with
  | .ref a => decide (H a = some (.tup (zs.map V.str)))
  | _ => false
theorem tups_any {H : Hp} {zs : List Str} {ts : List Addr} {cs : List (List Str)} (h : TupsAt H ts cs) {us : List Value} (r : Vals (ts.map V.ref) us) : us.any (eqT H zs) = decide (zs ∈ cs) := by
  rw [Bool.eq_iff_iff, List.any_eq_true, decide_eq_true_iff]
  constructor
  · rintro ⟨u, hu, e⟩
    obtain ⟨i, hi, rfl⟩ := List.getElem_of_mem hu
    have hl := r.length
    rw [List.length_map] at hl
    have hi' : i < ts.length := by omega
    obtain ⟨u', e1, ru⟩ := r.get (i := i) (x := .ref ts[i]) (by rw [List.getElem?_map, List.getElem?_eq_getElem hi']; rfl)
    rw [List.getElem?_eq_getElem hi] at e1
    cases e1
    obtain ⟨c, ec, hc⟩ := h.get (List.getElem?_eq_getElem hi')
    have ru' : us[i] = .ref ts[i] := ru
    rw [ru'] at e
    have e' : H ts[i] = some (.tup (zs.map V.str)) := by simpa [eqT] using e
    rw [e'] at hc
    have := map_str_inj (HO.tup.inj (Option.some.inj hc))
    rw [this]
    exact List.mem_of_getElem? ec
  · intro hz
    obtain ⟨i, hi, rfl⟩ := List.getElem_of_mem hz
    have hi' : i < ts.length := by rw [h.1]; exact hi
    obtain ⟨u', e1, ru⟩ := r.get (i := i) (x := .ref ts[i]) (by rw [List.getElem?_map, List.getElem?_eq_getElem hi']; rfl)
    have ru' : u' = .ref ts[i] := ru
    refine ⟨u', List.mem_of_getElem? e1, ?_⟩
    rw [ru']
    have := h.2 i _ _ (List.getElem?_eq_getElem hi') (List.getElem?_eq_getElem hi)
    simp [eqT, this]
theorem flat_strs' (zs : List Str) : (zs.map V.str).all flatV = true := by simp [flatV]
theorem tup_eqAt {pins : List (Addr × Obj)} {σ : St} {H : Hp} {s : Shared} {A : Around} (I : Inv X pins σ H s) (hu : A.units < cLine) {t : Addr} {zs : List Str} (ht : H t = some (.tup (zs.map V.str))) {ts : List Addr} {cs : List (List Str)} (h : TupsAt H ts cs) {us : List Value} (r : Vals (ts.map V.ref) us) :
    ∀ u ∈ us, SeqAt.EqAt A s u (.ref t) (eqT H zs u) := fun u hu' => by
  obtain ⟨i, hi, rfl⟩ := List.getElem_of_mem hu'
  have hl := r.length
  rw [List.length_map] at hl
  have hi' : i < ts.length := by omega
  obtain ⟨u', e1, ru⟩ := r.get (i := i) (x := .ref ts[i]) (by rw [List.getElem?_map, List.getElem?_eq_getElem hi']; rfl)
  rw [List.getElem?_eq_getElem hi] at e1
  cases e1
  have ru' : us[i] = .ref ts[i] := ru
  rw [ru']
  obtain ⟨c, ec, hc⟩ := h.get (List.getElem?_eq_getElem hi')
  by_cases hpq : ts[i] = t
  · have e : eqT H zs (.ref ts[i]) = true := by rw [hpq]; simp [eqT, ht]
    rw [e, hpq]
    exact SeqAt.EqAt.same _
  · refine SeqAt.EqAt.of_refs hpq ?_
    obtain ⟨is, ri, pi, _⟩ := I.tuple (SqT.of hc)
    obtain ⟨js, rj, pj, _⟩ := I.tuple (SqT.of ht)
    have z := SeqAt.RcAt.tuples (A := A) pi pj hu (eq_items (s := s) (flat_strs' c) (flat_strs' zs) ri rj)
    have e : ((List.range (min is.toArray.size js.toArray.size)).all (fun j => eqV ((c.map V.str).getD j .non) ((zs.map V.str).getD j .non)) && is.toArray.size == js.toArray.size) = eqT H zs (.ref ts[i]) := by
      have e1 : eqT H zs (.ref ts[i]) = eqVs (c.map V.str) (zs.map V.str) := by
        rw [eqVs_str, Bool.eq_iff_iff, decide_eq_true_iff]
        constructor
        · intro q
          have q' : H ts[i] = some (.tup (zs.map V.str)) := by simpa [eqT] using q
          rw [hc] at q'
          exact map_str_inj (HO.tup.inj (Option.some.inj q'))
        · intro q
          rw [q] at hc
          simp [eqT, hc]
      rw [e1]
      simp only [List.size_toArray]
      rw [← ri.length, ← rj.length]
      by_cases el : (c.map V.str).length = (zs.map V.str).length
      · rw [min_eq' el, ← eqVs_all el]
        simp [el]
      · have : ((c.map V.str).length == (zs.map V.str).length) = false := by simpa using el
        rw [this, Bool.and_false, eqVs_len el]
    rw [← e]
    exact z
theorem op_notIn_tups (hu : X.A.units + 1 < cLine) : OpR X (compareOp .NotIn) (rInT X.K true) := by
  intro pins s σ H x y v u Q I rx ry h
  obtain ⟨t, l, zs, ts, cs, rfl, rfl, ht, hl, hT, q⟩ := h
  cases rx
  cases ry
  obtain ⟨its, r, pl, hz⟩ := I.list hl
  refine SeqAt.notIn_listAt (eqT H zs) pl.isList (fun w hw => tup_eqAt I (by rw [units_in1]; omega) ht hT r w (by simpa using hw)) ⟨.bl _, H, I, rfl, ?_⟩
  rw [show its.toArray.any (eqT H zs) = its.any (eqT H zs) by simp, tups_any hT r]
  exact q
end
end L2

set_option Elab.async false
set_option linter.all false
set_option maxRecDepth 100000
set_option maxHeartbeats 4000000
namespace L2
open PySem PySem.Spec PyProof.Rows
section
variable {X : Cx}
/-! ### list.index of a text -/
theorem eqU_str {z y : Str} {t : Tok} : eqU (.str z) (.str y t) = decide (y = z) := by
  show (y == z) = decide (y = z)
  by_cases h : y = z
  · simp [h]
  · simp [h]
theorem idx_first {k : Str} : ∀ {ns : List Str} {j : Nat}, j < ns.idxOf k → ∀ (h2 : j < ns.length), ns[j] ≠ k
  | [], j, h, h2 => by simp at h2
  | n :: ns, 0, h, _ => fun e => by
    rw [List.getElem_cons_zero] at e
    rw [e, List.idxOf_cons_self] at h
    omega
  | n :: ns, j + 1, h, h2 => by
    rw [List.getElem_cons_succ]
    refine idx_first ?_ _
    rw [List.idxOf_cons] at h
    cases hn : n == k with
    | true => rw [hn] at h; simp at h
    | false => rw [hn] at h; simp at h; omega
def rIndex (K : PySem.W.Frag) : V → List V → Hp → VK → Prop := fun x vs H Q => ∃ (l : Addr) (zs : List Str) (z : Str), x = .ref l ∧ vs = [.str z] ∧ SqL K H l (zs.map V.str) ∧ z ∈ zs ∧ zs.length ≤ 1000 ∧ Q (.int (zs.idxOf z : Nat)) H
theorem vals_strs : ∀ {zs : List Str} {us : List Value}, Vals (zs.map V.str) us → StrsAre us zs
  | [], _, .nil => .nil
  | z :: zs, _, .cons ⟨t, e⟩ r => by subst e; exact .cons z t (vals_strs r)
theorem mt_index : MtR X "list.index" (rIndex X.K) := by
  intro pins s σ H x xs v us Q I rx r h
  obtain ⟨l, zs, z, rfl, rfl, hq, hz, small, q⟩ := h
  cases rx
  obtain ⟨u, rfl, ⟨t, rfl⟩⟩ := vals1 r
  obtain ⟨its, rv, pl, _⟩ := I.list hq
  obtain ⟨⟨cls, dd, data, sl⟩, ho, hc, n, hd⟩ := pl.isList
  simp only at hc hd
  subst hc hd
  have hs := vals_strs rv
  have hlen : its.length = zs.length := strs_len hs
  have hj : zs.idxOf z < zs.length := List.idxOf_lt_length_iff.mpr hz
  have at_ : ∀ (j : Nat) (h1 : j < its.length) (h2 : j < zs.length), eqU (.str z) its[j] = decide (zs[j] = z) := fun j h1 h2 => by
    obtain ⟨y, t', e1, e2⟩ := strs_at hs (List.getElem?_eq_getElem h1)
    rw [List.getElem?_eq_getElem h2] at e1
    cases e1
    rw [e2, eqU_str]
  refine call_meets PySem.F.slot_list_index ⟨_, ho, rfl⟩ PySem.F.entry_list_index (PySem.F.args_list_index_2 _ _)
    (SeqAt.list_indexAt l its.toArray n dd sl (.str z t) (eqU (.str z)) (zs.idxOf z) (by simpa [hlen] using hj) (by omega) ?_ ?_) ⟨ho, fun y hy => mem_eqAt (x := .str z) ⟨t, rfl⟩ rfl rv (flat_strs' zs) y (by simpa using hy), ?_⟩
  · show eqU (.str z) its[zs.idxOf z] = true
    rw [at_ _ (by omega) hj]
    simpa using List.getElem_idxOf hj
  · intro j hjs hlt
    have hjs' : j < its.length := by simpa using hjs
    show eqU (.str z) its[j] = false
    rw [at_ j hjs' (by omega), decide_eq_false_iff_not]
    exact idx_first hlt _
  · exact ⟨.int (zs.idxOf z : Nat), H, I.tok _, ⟨_, rfl⟩, q⟩
/-- pe_bm where the context is a comprehension's: its K by name -/
theorem pe_bmK {K : PySem.W.Frag} {o e : Expr} {es : List Expr} {to : TE} {t : TA} {name : Str} {apos cpos : Pos} {T id : String} {r : V → List V → Hp → VK → Prop} (hK : X.K = K) (pa : PlainAttrs T) (slot : Slot T name id) (hty : typeOf (.builtin id) = pure (.type "method_descriptor")) (hm : MtR X id r) (ho : PE X o to) (ha : PA X (e :: es) t)
    (hbase : attributeBase o name X.env (eval o X.env) = eval o X.env := by rfl)
    (hfew : ((backTo cpos (starEach (e :: es) X.env)).all (fun x => !x.1) && (backToKw cpos (keywordEach [] X.env)).all (fun x => x.1.isSome)
      && decide ((e :: es).length + ([] : List Keyword).length + (if ([] : List Keyword).isEmpty then 0 else 1) < 30)) = true := by rfl)
    (hline : (apos.endLine == cpos.line) = true := by rfl) (hs : starEach (e :: es) X.env = (false, eval e X.env) :: starEach es X.env := by rfl) (hplain : (backTo cpos (starEach es X.env)).any (·.1) = false := by rfl) :
    PE X (.Call (.Attribute o name apos) (e :: es) [] cpos) (tBM K T r to t) := by
  subst hK
  exact pe_bm pa slot hty hm ho ha hbase hfew hline hs hplain
end
end L2

set_option Elab.async false
set_option linter.all false
namespace L2
open PySem
/-! ### masks -/
theorem and1 (m k : Nat) : Builtin.bitAnd ((m : Int) / 2 ^ ((k : Int).toNat)) 1 = if m.testBit k then 1 else 0 := by
  have e : (m : Int) / 2 ^ ((k : Int).toNat) = ((m / 2 ^ k : Nat) : Int) := by
    rw [Int.toNat_natCast]
    norm_cast
  rw [e]
  unfold Builtin.bitAnd
  have h1 : decide ((0 : Int) ≤ ((m / 2 ^ k : Nat) : Int)) = true := decide_eq_true (Int.natCast_nonneg _)
  have h2 : decide ((0 : Int) ≤ 1) = true := by decide
  rw [h1, h2]
  show (((((m / 2 ^ k : Nat) : Int)).toNat &&& (1 : Int).toNat : Nat) : Int) = _
  rw [Int.toNat_natCast]
  show (((m / 2 ^ k) &&& 1 : Nat) : Int) = _
  rw [Nat.and_one_is_mod, Nat.testBit_eq_decide_div_mod_eq]
  have := Nat.mod_two_eq_zero_or_one (m / 2 ^ k)
  rcases this with h | h <;> simp [h]
/-- the number whose bits are f's -/
def bitsOf : Nat → (Nat → Bool) → Nat
  | 0, _ => 0
  | n + 1, f => 2 * bitsOf n (fun i => f (i + 1)) + (f 0).toNat
theorem bitsOf_test : ∀ (n : Nat) (f : Nat → Bool) (k : Nat), (bitsOf n f).testBit k = (decide (k < n) && f k)
  | 0, f, k => by simp [bitsOf]
  | n + 1, f, 0 => by
    unfold bitsOf
    rw [Nat.testBit_zero]
    cases f 0 <;> simp <;> omega
  | n + 1, f, k + 1 => by
    unfold bitsOf
    rw [Nat.testBit_succ]
    have e : (2 * bitsOf n (fun i => f (i + 1)) + (f 0).toNat) / 2 = bitsOf n (fun i => f (i + 1)) := by
      cases f 0 <;> simp <;> omega
    rw [e, bitsOf_test n _ k]
    simp
theorem bitsOf_lt : ∀ (n : Nat) (f : Nat → Bool), bitsOf n f < 2 ^ n
  | 0, f => by simp [bitsOf]
  | n + 1, f => by
    unfold bitsOf
    have := bitsOf_lt n fun i => f (i + 1)
    rw [Nat.pow_succ]
    cases f 0 <;> simp <;> omega
/-- the places whose bits are set -/
def sel (zs : List Str) (m : Nat) : List Str := zs.filter fun z => m.testBit (zs.idxOf z)
theorem mask_some {m n : Nat} (h0 : m ≠ 0) (h : m < 2 ^ n) : ∃ k, k < n ∧ m.testBit k = true := by
  obtain ⟨k, hk⟩ := Nat.exists_testBit_of_ne_zero h0
  refine ⟨k, ?_, hk⟩
  rcases Nat.lt_or_ge k n with q | q
  · exact q
  · have := Nat.ge_two_pow_of_testBit hk
    have := Nat.pow_le_pow_right (show 0 < 2 by decide) q
    omega
theorem mask_none {m n : Nat} (h0 : m ≠ 2 ^ n - 1) (h : m < 2 ^ n) : ∃ k, k < n ∧ m.testBit k = false := by
  obtain ⟨k, hk⟩ := Nat.exists_testBit_ne_of_ne h0
  rw [Nat.testBit_two_pow_sub_one] at hk
  rcases Nat.lt_or_ge k n with q | q
  · refine ⟨k, q, ?_⟩
    simp [q] at hk
    exact hk
  · have : m.testBit k = false := Nat.testBit_lt_two_pow (Nat.lt_of_lt_of_le h (Nat.pow_le_pow_right (by decide) q))
    simp [this] at hk
    omega
/-- the sets that masks tell are all there are -/
theorem masks_all {zs : List Str} (nd : zs.Nodup) (P : Str → Bool) (h1 : ∃ z ∈ zs, P z = true) (h2 : ∃ z ∈ zs, P z = false) : ∃ m, 1 ≤ m ∧ m < 2 ^ zs.length - 1 ∧ ∀ z ∈ zs, m.testBit (zs.idxOf z) = P z := by
  refine ⟨bitsOf zs.length fun k => P (zs.getD k (⟨#[]⟩ : Str)), ?_⟩
  have hb : ∀ z ∈ zs, (bitsOf zs.length fun k => P (zs.getD k (⟨#[]⟩ : Str))).testBit (zs.idxOf z) = P z := fun z hz => by
    have hk : zs.idxOf z < zs.length := List.idxOf_lt_length_iff.mpr hz
    rw [bitsOf_test, decide_eq_true hk, Bool.true_and]
    congr 1
    rw [List.getD, List.getElem?_eq_getElem hk, Option.getD_some]
    simpa using List.getElem_idxOf hk
  have lt := bitsOf_lt zs.length fun k => P (zs.getD k (⟨#[]⟩ : Str))
  generalize (bitsOf zs.length fun k => P (zs.getD k (⟨#[]⟩ : Str))) = m at hb lt
  refine ⟨?_, ?_, hb⟩
  · obtain ⟨z, hz, e⟩ := h1
    rcases Nat.eq_zero_or_pos m with q | q
    · have := hb z hz
      rw [q, e] at this
      simp at this
    · exact q
  · obtain ⟨z, hz, e⟩ := h2
    rcases Nat.lt_or_ge m (2 ^ zs.length - 1) with q | q
    · exact q
    · have : m = 2 ^ zs.length - 1 := by omega
      have h := hb z hz
      rw [this, Nat.testBit_two_pow_sub_one, e] at h
      have hk : zs.idxOf z < zs.length := List.idxOf_lt_length_iff.mpr hz
      simp [hk] at h
end L2

set_option Elab.async false
set_option linter.all false
set_option maxRecDepth 100000
set_option maxHeartbeats 4000000
namespace L2
open PySem PySem.Spec PyProof.Rows
/-! ### dict(list of pairs) -/
theorem list_no_keys : typeLookup (.type "list") "keys" = pure none := by rw [typeLookup_type, builtinLookup_eq_fast]; kernel_rfl
theorem entry_upd_loop : entryFor table "dict.update.loop" = some Builtin.«dict.update.loop» := entryFor_of_tree (by kernel_rfl)
theorem plain_upd_loop : plainId "dict.update.loop" = true := by decide +kernel
section
variable {prog : Program} {w : World} {A : Around} {E : Value → Shared → Prop} {s : Shared}
theorem keys_miss {a : Addr} {o : Obj} {xs : Array Value} {k : Nat} {Q : Option Value → Shared → Prop} (hx : s.heap.get? a = some o) (hc : o.cls = .type "list") (hdat : o.data = .seq xs k) (hd : o.dict = none) (hA : A.handled = none)
    (h : ∀ h' tk, (∀ b ob, s.heap.get? b = some ob → h'.get? b = some ob) → Q none { s with heap := h', toks := tk }) :
    wpAny (model prog w) A (getAttr? (.ref a) "keys") Q E s := by
  obtain ⟨c, dct, dat, sl⟩ := o
  simp only at hc hdat hd
  subst hc hdat hd
  obtain ⟨hp, g, d, tk, os⟩ := s
  have hT : ∀ tk', (⟨hp, g, d, tk', os⟩ : Shared).TypeIs (.ref a) "list" := fun _ => ⟨_, hx, rfl⟩
  have f1 := sub_AttributeError
  have f3 := F.slot_list_getattribute.lookup
  have f4 := F.slot_list_getattribute.bind (.ref a)
  have f5 := am_list_getattr_none
  unfold getAttr? getAttrBy? getAttrBy
  repeat (any_goals (first | assumption | exact hT _ | ((with_reducible show wpAny _ _ (call (Value.builtin "list.__getattribute__") _ _) _ _ _); refine call_meets F.slot_list_getattribute (hT _) am_entry_list_getattribute (F.args_list_getattribute_2 _ _) (meets_getattribute_miss_list a xs k sl "keys" _ list_no_keys (by decide +kernel) (by decide +kernel)) ⟨hx, hA, fun h' tk' e hx' => ?_⟩) | wp_step))
  obtain ⟨t', u', he⟩ := hx'.there
  show wpAny _ _ (getattributeRaised _ _ _ _ _ _ _) _ _ _
  unfold getattributeRaised
  repeat (any_goals (first | assumption | wp_step))
  exact h _ _ hx'.keeps
variable {K : Type} [DecidableEq K] {knd : KeyKind prog w K}
/-- what a list of pairs holds: at each place a tuple of a key and a value -/
def PairsIn (knd : KeyKind prog w K) (I D : Addr) (h : Heap) (its : List Value) (all : List (K × Value)) : Prop :=
  ∀ (i : Nat) v, its[i]? = some v → ∃ t key p, v = .ref t ∧ all[i]? = some p ∧ knd.is p.1 key = true ∧ t ≠ I ∧ t ≠ D ∧ h.IsTuple t #[key, p.2]
theorem PairsIn.keep {I D : Addr} {h h' : Heap} {its : List Value} {all : List (K × Value)} (x : PairsIn knd I D h its all) (k : ∀ b o, b ≠ I → b ≠ D → h.get? b = some o → h'.get? b = some o) : PairsIn knd I D h' its all := fun i v e =>
  let ⟨t, key, p, e1, e2, e3, n1, n2, q⟩ := x i v e
  ⟨t, key, p, e1, e2, e3, n1, n2, q.at fun o eo => k t o n1 n2 eo⟩
theorem merged_le (all : List (K × Value)) : ∀ i, (merged [] (all.take i)).length ≤ i
  | 0 => by simp [merged]
  | i + 1 => by
    cases e : all[i]? with
    | none =>
      rw [List.take_add_one, e]
      have := merged_le all i
      simp only [Option.toList_none, List.append_nil]
      omega
    | some p =>
      rw [merged_take_succ _ _ _ _ e]
      have := stored_length_le (merged [] (all.take i)) p.1 p.2
      have := merged_le all i
      omega
theorem upd_loop {I D l : Addr} {its : List Value} {all : List (K × Value)} {R : Result → Shared → Prop} (hA : A.handled = none) (hne : l ≠ I) (hD1 : D ≠ I) (hD2 : D ≠ l) (hlen : its.length = all.length) (few : all.length ≤ 1000) :
    ∀ (left i : Nat) (s : Shared) (n : Int) (tkn : Tok), i + left = all.length → s.heap.IsListIter I l i → s.heap.IsList l its.toArray → s.heap.DictOf knd D (merged [] (all.take i)) → PairsIn knd I D s.heap its all →
      (∀ h' tk, (∀ b o, b ≠ I → b ≠ D → s.heap.get? b = some o → h'.get? b = some o) → h'.DictOf knd D (merged [] all) → R (.ok (.ret .none)) { s with heap := h', toks := tk }) →
      codeAny (model prog w) A (.builtin "dict.update.loop" ⟨[.ref D, .ref I, .int n tkn, .none], []⟩) R s
  | 0, i, s, n, tkn, hi, it, hl, dd, pp, k => by
    have W := Walks.list (prog := prog) (w := w) (A := A.in1) hA I l hne its.toArray
    refine codeAny_builtin entry_upd_loop ?_
    rw [Around.under_plainId plain_upd_loop _]
    apply wpAny_bind
    have e : its.toArray.size = i := by rw [List.size_toArray]; omega
    refine W.done s _ _ (by rw [e]; exact ⟨it, hl⟩) fun h' tk m => ?_
    show wpAny _ _ (Builtin.Dict.addKeywords D [] >>= _) _ _ _
    refine wpAny_bind (wpAny_pure (wpAny_pure (k h' tk (fun b o n1 _ e => m b o (by simpa using n1) e) ?_)))
    have et : all.take i = all := List.take_of_length_le (by omega)
    rw [et] at dd
    exact dd.at fun o eo => m D o (by simpa using hD1) eo
  | left + 1, i, s, n, tkn, hi, it, hl, dd, pp, k => by
    have W := Walks.list (prog := prog) (w := w) (A := A.in1) hA I l hne its.toArray
    have hi' : i < its.length := by omega
    refine codeAny_builtin entry_upd_loop ?_
    rw [Around.under_plainId plain_upd_loop _]
    apply wpAny_bind
    refine W.item i s _ _ (by rw [List.size_toArray]; exact hi') ⟨it, hl⟩ fun v h1 tk1 pv st m => ?_
    have pv' : its[i]? = some v := by simpa using pv
    obtain ⟨t, key, p, rfl, ep, hk, n1, n2, ht⟩ := pp i v pv'
    have m' : ∀ b o, b ≠ I → s.heap.get? b = some o → h1.get? b = some o := fun b o nb e => m b o (by simpa using nb) e
    have ht1 : h1.IsTuple t #[key, p.2] := ht.at fun o e => m' t o n1 e
    have dd1 : h1.DictOf knd D (merged [] (all.take i)) := dd.at fun o e => m' D o hD1 e
    obtain ⟨ot, hot, hoc, no, hod⟩ := id ht1
    show wpAny _ A.in1 (holding _ _ >>= _) _ _ _
    apply wpAny_bind
    apply wpAny_holding
    apply wpAny_bind
    apply wpAny_tryCatch
    unfold Builtin.Dict.pairItems
    refine wpAny_bind (wpAny_typeOf (T := "tuple") (Heap.IsTuple.typeIs (s := { s with heap := h1, toks := tk1 }) ht1) ?_)
    rw [if_pos (by decide)]
    refine wpAny_bind (wpAny_seqItems hot hod ?_)
    refine wpAny_pure ?_
    show wpAny _ _ (holding [key, p.2] (dictSet D key p.2)) _ _ _
    apply wpAny_holding
    refine wpAny_dictSet_pairs (s := { s with heap := h1, toks := tk1 }) hk dd1 (fun h2 dd2 sb => ?_) (by have := merged_le all i; exact Nat.le_trans this (Nat.le_trans (by omega : i ≤ 1000) (by decide)))
    rw [← merged_take_succ _ _ _ _ ep] at dd2
    have nl : l ≠ D := Ne.symm hD2
    have kp : ∀ b o, b ≠ D → h1.get? b = some o → h2.get? b = some o := fun b o nb e => (sb.2 b nb).trans e
    refine wpAny_pure ⟨plainId_quiet plain_upd_loop _, upd_loop hA hne hD1 hD2 hlen few left (i + 1) _ _ _ (by omega) (st.1.at fun o e => kp I o (Ne.symm hD1) e) (st.2.at fun o e => kp l o nl e) dd2 (pp.keep fun b o q1 q2 e => kp b o q2 (m' b o q1 e)) fun h' tk q dd' => ?_⟩
    exact k h' tk (fun b o q1 q2 e => q b o q1 q2 (kp b o q2 (m' b o q1 e))) dd'
/-- dict(..) of a list of pairs -/
theorem dict_pairs {l : Addr} {its : List Value} {all : List (K × Value)} {Q : Value → Shared → Prop} {n : Nat} (hA : A.handled = none) (ho : s.heap.get? l = some { cls := .type "list", data := .seq its.toArray n }) (hlen : its.length = all.length) (few : all.length ≤ 1000)
    (hp : ∀ (i : Nat) v, its[i]? = some v → ∃ t key p, v = .ref t ∧ all[i]? = some p ∧ knd.is p.1 key = true ∧ s.heap.IsTuple t #[key, p.2])
    (h : ∀ h' tk, h'.DictOf knd s.heap.objs.size (merged [] all) → (∀ b o, s.heap.get? b = some o → h'.get? b = some o) → Q (.ref s.heap.objs.size) { s with heap := h', toks := tk }) :
    wpAny (model prog w) A (call (.type "dict") [.ref l]) Q E s := by
  refine callType_codes (Q₁ := fun obj s₁ => obj = .ref s.heap.objs.size ∧ s₁ = { s with heap := s.heap.push { cls := .type "dict", data := .dict #[] } }) F.kt_called_dict (F.kt_typeCall_dict_1 _) F.entry_dict_init (kt_code_dict_new _ ⟨rfl, rfl⟩) ?_
  rintro obj s₁ ⟨rfl, rfl⟩
  have new : (s.heap.push { cls := .type "dict", data := .dict #[] }).DictOf knd s.heap.objs.size [] := Heap.DictOf.new s.heap
  have lt1 : @LT.lt Nat _ l s.heap.objs.size := Heap.lt_size ho
  have kp1 : ∀ b o, s.heap.get? b = some o → (s.heap.push { cls := .type "dict", data := .dict #[] }).get? b = some o := fun b o e => Heap.get?_push_of_some _ e
  generalize s.heap.push { cls := .type "dict", data := .dict #[] } = h1 at new kp1 ⊢
  have ho1 := kp1 _ _ ho
  have hl1 : h1.IsList l its.toArray := ⟨_, ho1, rfl, n, rfl⟩
  refine ⟨new.typeIs, F.args_dict_init_2 _ _, ?_⟩
  unfold Builtin.«dict.__init__»
  refine wpAny_bind ?_
  unfold Builtin.Dict.selfAndRest
  refine wpAny_bind (wpAny_notOrdered_dict new.typeIs ?_)
  show wpAny _ _ (pure (s.heap.objs.size, [Value.ref l])) _ _ _
  refine wpAny_pure ?_
  show wpAny _ _ (Builtin.Dict.updateFrom "dict.__init__" s.heap.objs.size (.ref l) [] .none) _ _ _
  unfold Builtin.Dict.updateFrom
  refine wpAny_bind (wpAny_typeOf (T := "list") (Heap.IsList.typeIs (s := { s with heap := h1 }) hl1) ?_)
  rw [if_pos (by decide)]
  refine wpAny_bind (keys_miss (s := { s with heap := h1 }) ho1 rfl rfl rfl (by simpa using hA) fun h2 tk2 kp2 => ?_)
  rw [if_pos (by rfl)]
  refine wpAny_bind (wpAny_rule ?_)
  have new2 : h2.DictOf knd s.heap.objs.size [] := new.keep kp2
  have hl2 : h2.IsList l its.toArray := ⟨_, kp2 _ _ ho1, rfl, n, rfl⟩
  refine wpAny_bind (wpAny_pyIter_list (s := { s with heap := h2, toks := tk2 }) hl2 ?_)
  have sz : @LT.lt Nat _ s.heap.objs.size h2.objs.size := by
    obtain ⟨od, _, _, e, _⟩ := new2
    exact Heap.lt_size e
  have big : ∀ b o, s.heap.get? b = some o → @LT.lt Nat _ b s.heap.objs.size := fun b o e => Heap.lt_size e
  refine wpAny_pure ⟨plainId_quiet plain_upd_loop _, upd_loop (knd := knd) (its := its) (all := all) (l := l) (D := s.heap.objs.size) (I := h2.objs.size) (by simpa using hA) ?_ ?_ ?_ hlen few all.length 0 _ _ _ (Nat.zero_add _) ⟨_, Heap.get?_push_size _ rfl, rfl, rfl⟩ (hl2.push _) ?_ (fun i v e => ?_) fun h' tk q dd => ?_⟩
  · exact Nat.ne_of_lt (Nat.lt_trans lt1 sz)
  · exact Nat.ne_of_lt sz
  · exact Nat.ne_of_gt lt1
  · exact new2.push _
  · obtain ⟨t, key, p, e1, e2, e3, e4⟩ := hp i v e
    obtain ⟨ot, hot, r⟩ := e4
    have lt := big _ _ hot
    exact ⟨t, key, p, e1, e2, e3, Nat.ne_of_lt (Nat.lt_trans lt sz), Nat.ne_of_lt lt, ot, Heap.get?_push_of_some _ (kp2 _ _ (kp1 _ _ hot)), r⟩
  · refine ⟨rfl, h h' tk dd fun b o e => ?_⟩
    have lt := big _ _ e
    exact q b o (Nat.ne_of_lt (Nat.lt_trans lt sz)) (Nat.ne_of_lt lt) (Heap.get?_push_of_some _ (kp2 _ _ (kp1 _ _ e)))
end
end L2
namespace L2
open PySem PySem.Spec PyProof.Rows
def tabW : List Str → List Addr → List (Key × Value)
  | z :: zs, l :: ls => (Sum.inr z, Value.ref l) :: tabW zs ls
  | _, _ => []
theorem kv_tab : ∀ (zs : List Str) (ls : List Addr), KV (tab zs ls) (tabW zs ls)
  | [], _ => .nil
  | _ :: _, [] => .nil
  | z :: zs, l :: ls => .cons ⟨rfl, rfl⟩ (kv_tab zs ls)
theorem tabW_len : ∀ {zs : List Str} {ls : List Addr}, ls.length = zs.length → (tabW zs ls).length = zs.length
  | [], _, _ => rfl
  | _ :: _, [], h => by simp at h
  | z :: zs, l :: ls, h => by show (tabW zs ls).length + 1 = _; rw [tabW_len (by simpa using h)]; rfl
theorem tabW_at : ∀ {zs : List Str} {ls : List Addr} {i : Nat} {z : Str} {l : Addr}, zs[i]? = some z → ls[i]? = some l → (tabW zs ls)[i]? = some (Sum.inr z, Value.ref l)
  | [], _, _, _, _, h, _ => by simp at h
  | _ :: _, [], _, _, _, _, h => by simp at h
  | y :: zs, m :: ls, 0, z, l, h1, h2 => by simp at h1 h2; subst h1 h2; rfl
  | y :: zs, m :: ls, i + 1, z, l, h1, h2 => by
    show (tabW zs ls)[i]? = _
    exact tabW_at (by simpa using h1) (by simpa using h2)
theorem tabW_keys : ∀ {zs : List Str} {ls : List Addr}, ls.length = zs.length → (tabW zs ls).map (·.1) = zs.map Sum.inr
  | [], _, _ => rfl
  | _ :: _, [], h => by simp at h
  | z :: zs, l :: ls, h => by show Sum.inr z :: (tabW zs ls).map (·.1) = _; rw [tabW_keys (by simpa using h)]; rfl
theorem nd_inr : ∀ {zs : List Str}, zs.Nodup → (zs.map (Sum.inr : Str → Key)).Nodup
  | [], _ => List.nodup_nil
  | z :: zs, h => by
    rw [List.nodup_cons] at h
    rw [List.map_cons, List.nodup_cons]
    refine ⟨fun q => ?_, nd_inr h.2⟩
    obtain ⟨y, hy, e⟩ := List.mem_map.mp q
    cases e
    exact h.1 hy
/-- dict of a list of pairs (text, a thing laid somewhere) -/
def rDictP : List V → Hp → VK → Prop := fun xs H Q => ∃ (l : Addr) (ts : List Addr) (zs : List Str) (ls : List Addr), xs = [.ref l] ∧ H l = some (.lst (ts.map V.ref)) ∧ ts.length = zs.length ∧ ls.length = zs.length ∧
  (∀ (i : Nat) t z a, ts[i]? = some t → zs[i]? = some z → ls[i]? = some a → H t = some (.tup [.str z, .ref a])) ∧ zs.Nodup ∧ zs.length ≤ 1000 ∧ ∀ d, H d = none → Q (.ref d) (upd H d (.dK (tab zs ls)))
theorem call_dict_pairs {X : Cx} (hc : X.calm = true) : CallR X (.type "dict") rDictP := by
  intro pins s σ H xs us Q I r h
  obtain ⟨l, ts, zs, ls, rfl, hl, e1, e2, hT, nd, few, q⟩ := h
  obtain ⟨u, rfl, rx⟩ := vals1 r
  cases rx
  obtain ⟨z, its, n, rv, hlen, e⟩ := I.lstM hl
  rw [List.length_map] at hlen
  refine dict_pairs (knd := mixKind X.prog X.w) (all := tabW zs ls) (I.ok.hd hc) e (by rw [tabW_len e2]; omega) (by rw [tabW_len e2]; exact few) (fun i v ev => ?_) fun h' tk dd kp => ?_
  · have hi : i < its.length := (List.getElem?_eq_some_iff.mp ev).1
    have hi1 : i < ts.length := by omega
    have hi2 : i < zs.length := by omega
    have hi3 : i < ls.length := by omega
    obtain ⟨v', e3, ru⟩ := rv.get (i := i) (x := .ref ts[i]) (by rw [List.getElem?_map, List.getElem?_eq_getElem hi1]; rfl)
    rw [ev] at e3
    cases e3
    have ru' : v = .ref ts[i] := ru
    obtain ⟨is, ri, pi, _⟩ := I.tuple (SqT.of (hT i _ _ _ (List.getElem?_eq_getElem hi1) (List.getElem?_eq_getElem hi2) (List.getElem?_eq_getElem hi3)))
    obtain ⟨a1, a2, rfl, ⟨t1, rfl⟩, r2⟩ := vals2 ri
    cases r2
    exact ⟨ts[i], _, _, ru', tabW_at (List.getElem?_eq_getElem hi2) (List.getElem?_eq_getElem hi3), mixKind_str X.prog X.w _ t1, pi⟩
  · rw [merged_nil_of_nodup _ (by rw [tabW_keys e2]; exact nd_inr nd)] at dd
    have no : s.heap.get? s.heap.objs.size = none := by
      cases e : s.heap.get? s.heap.objs.size with
      | none => rfl
      | some o => exact absurd (Heap.lt_size e) (Nat.lt_irrefl _)
    have noH : H s.heap.objs.size = none := I.hok.fresh (Nat.le_refl _)
    have big := I.big
    have lo : (s.heap.objs.size == sysModules) = false := by
      refine beq_eq_false_iff_ne.mpr fun z => ?_
      rw [z] at big
      exact absurd big (Nat.lt_irrefl _)
    refine ⟨.ref s.heap.objs.size, _, I.laidN (t' := tk) (o := .dK (tab zs ls)) kp no noH (dk_new (by rw [tab_len e2]; exact Nat.le_trans few (by decide)) lo (kv_tab zs ls) dd), rfl, q _ noH⟩
end L2

set_option Elab.async false
set_option linter.all false
set_option maxRecDepth 100000
set_option maxHeartbeats 4000000
namespace L2
open PySem PySem.Spec PyProof.Rows
section
variable {X : Cx}
theorem call_divmod' : CallR X (.builtin "divmod") (fun xs H Q => ∃ i j, xs = [.int i, .int j] ∧ 0 < j ∧ j < 2 ^ 64 ∧ ∀ p, H p = none → Q (.ref p) (upd H p (.tup [.int (i / j), .int (i % j)]))) := by
  intro pins s σ H xs us Q I r h
  obtain ⟨i, j, rfl, h1, h2, q⟩ := h
  obtain ⟨u, w', rfl, ⟨t, rfl⟩, ⟨t', rfl⟩⟩ := vals2 r
  have small : j.natAbs.log2 < 9000 := by
    have a : j.natAbs < 2 ^ 64 := by omega
    have b : j.natAbs ≠ 0 := by omega
    have c := (Nat.log2_lt b).mpr a
    omega
  refine divmod_int (by omega) ?_ (.inl (PyProof.noPylong_of_log2 small))
  rw [Int.fdiv_eq_ediv_of_nonneg i (by omega), Int.fmod_eq_emod_of_nonneg i (by omega)]
  refine ⟨.ref s.heap.objs.size, _, I.laid (o := .tup [.int (i / j), .int (i % j)]) (fun b o e => Heap.get?_push_of_some _ e) (Nat.le_refl _) ⟨?_, [.int (i / j) s.toks, .int (i % j) (s.toks + 1)], .cons ⟨_, rfl⟩ (.cons ⟨_, rfl⟩ .nil), ⟨_, Heap.get?_push_size s.heap rfl, rfl, 0, rfl⟩⟩, rfl, q _ I.fresh⟩
  show 2 ≤ sizeLine
  decide
end
/-- a def that may raise -/
theorem Fun.okO {P : Program} {w : World} {K : PySem.W.Frag} {mg : Str → Option Value} {base : Heap} {x qual : Str} {st : Stmt} {f : Addr} {fd : FuncData} {N ps : List Str} {k : Nat} {sp : Sp} (F : Fun K x qual st f fd) (S : FnScope N ps (defScope st)) (len : ∀ vs H Q E, sp vs H Q E → vs.length = ps.length)
    (hbody : ∀ (cdv : Value) (A : Around) (outer : List Env) (s : Shared) (H : Hp) (vs : List V) (Q : VK) (E : XK), Room k (A.deeper (envOfC qual (defScope st) s.heap.objs.size f cdv)) → sp vs H Q E →
      ∃ t, PSs (cxOf (CXO P w) P w K mg base N qual (defScope st) f cdv A outer s H E) (defBody st) t ∧ t { nx := fun _ H' => Q .non H', rt := Q } (start N vs) H) : FnOk P w K mg base (CXO P w) (k + 1) f fd ps sp := by
  obtain ⟨oc, od, kV, doc, pm, an, cdv, ct, osl, rfl, lk, hcd⟩ := F.ex
  exact fn_of lk hcd S len (hbody cdv)
end L2
namespace K23
open PySem PySem.Spec PyProof.Rows L2
def top (i : Nat) : Stmt := PySem.Challenge.pw_cutmeet_k23_least_and_greatest.main.body.getD i (.Pass ⟨0, 0, 0, 0⟩)
abbrev sWhole : Stmt := top 8
abbrev sName : Stmt := top 9
abbrev sChkP : Stmt := top 13
abbrev sAmong : Stmt := top 14
abbrev sTie : Stmt := top 15
abbrev sChkT : Stmt := top 16
abbrev sInit : Stmt := inClass (top 17) 0
abbrev sPlaces : Stmt := inClass (top 17) 1
abbrev sTieM : Stmt := inClass (top 17) 3
abbrev sTies : Stmt := inClass (top 17) 4
abbrev sWeb : Stmt := top 35
abbrev sLaw : Stmt := top 45
/-- a def of the text: its object, its binding, how its arguments bind -/
structure Df (K : PySem.W.Frag) (mg : Str → Option Value) (x : Str) (st : Stmt) (ps : List Str) (f : Addr) (fd : FuncData) : Prop where
  fn : Fun K x x st f fd
  mgf : mg x = some (.ref f)
  b : Binds K fd ps []
/-- all tracked but p as it was -/
def But (p : Addr) (H H' : Hp) : Prop := ∀ b o, H b = some o → b ≠ p → H' b = some o
def Row (H : Hp) (p : Addr) : Prop := ∃ a b : Int, H p = some (.lst [.int a, .int b])
def spDraw : Sp := fun vs H Q _ => ∃ (p : Addr) (m : Int), vs = [.ref p, .int m] ∧ Row H p ∧ 0 < m ∧ m < 2 ^ 64 ∧ ∀ (d : Int) (H' : Hp), 0 ≤ d → d < m → Row H' p → But p H H' → Q (.int d) H'
structure Glb (mg : Str → Option Value) : Prop where
  divmod : mg "divmod" = none
  len : mg "len" = none
  all : mg "all" = none
  isinst : mg "isinstance" = none
  str : mg "str" = none
  range : mg "range" = none
  max : mg "max" = none
  min : mg "min" = none
  bool : mg "bool" = none
  list : mg "list" = none
  int : mg "int" = none
  tuple : mg "tuple" = none
  set : mg "set" = none
  sorted : mg "sorted" = none
  longest : ∃ t, mg "LONGEST" = some (.int 8 t)
  places : ∃ t, mg "MOST_PLACES" = some (.int 12 t)
  ties : ∃ t, mg "MOST_TIES" = some (.int 30 t)
section
variable {P : Program} {w : World} {K : PySem.W.Frag} {mg : Str → Option Value} {base : Heap}
/-! ### names -/
def lo (c : Nat) : Bool := !decide ((⟨#[c]⟩ : Str).cps.toList < ("a" : Str).cps.toList)
def hi (c : Nat) : Bool := !decide (("z" : Str).cps.toList < (⟨#[c]⟩ : Str).cps.toList)
def nm (z : Str) : Bool := (decide (1 ≤ z.length) && decide (z.length ≤ 8)) && (z.cps.toList.map fun c => lo c && hi c).all id
/-- the loop over a text's signs, each a bool -/
theorem signs_loop {K : PySem.W.Frag} {z : Str} {H : Hp} {Q : VK} {te : TE} {σ : L2.St} {x : Str} (hz : z.cps.size ≤ sizeLine) (f : Nat → Bool)
    (he : ∀ (c : Nat) (H : Hp) (Q : VK), Q (.bl (f c)) H → te [some (V.str ⟨#[c]⟩)] H Q) (k : ∀ D, H D = none → Q (.ref D) (upd H D (.lst ((z.cps.toList.map f).map V.bl)))) :
    lcLoop [x] [] (gName 0) tYes te σ Q (Its z) H := by
  refine ⟨fun i m ys H2 => H2 = H ∧ i ≤ z.cps.size ∧ m = z.cps.size - i ∧ ys = ((z.cps.toList.take i).map f).map V.bl, ⟨z.cps.size, rfl, Nat.zero_le _, rfl, rfl⟩, ?_⟩
  rintro i m ys H2 ⟨rfl, hi, rfl, rfl⟩
  refine ⟨by simp; omega, ?_⟩
  by_cases h : i < z.cps.size
  · refine .inr ⟨h, fun x H3 hy => ?_⟩
    obtain ⟨rfl, c, hc, rfl⟩ := hy
    simp only [tYes, gName, if_true]
    refine he c _ _ ⟨z.cps.size - (i + 1), by omega, rfl, h, rfl, ?_⟩
    have e : (z.cps.toList.take (i + 1)) = z.cps.toList.take i ++ [c] := by
      rw [List.take_add_one]
      have : z.cps.toList[i]? = some c := by simpa using hc
      rw [this]; rfl
    rw [e]; simp
  · have e : i = z.cps.size := by omega
    subst e
    refine .inl ⟨rfl, fun D hD => ?_⟩
    have q := k D hD
    rw [List.take_of_length_le (by simp)]
    exact q
def spName : Sp := fun vs H Q _ => (∃ z : Str, vs = [.str z] ∧ z.length ≤ 1000 ∧ ∀ H', Same H H' → Q (.bl (nm z)) H') ∨ ∃ x t, vs = [x] ∧ TyOf K H x t ∧ PySem.W.kitOne K t (.type "str") = some false ∧ Q (.bl false) H
theorem scN : FnScope ["thing"] ["thing"] (defScope sName) := ⟨rfl, rfl, rfl, by decide +kernel, rfl, by decide +kernel, by decide +kernel⟩
theorem ok_name {f : Addr} {fd : FuncData} (F : Fun K "is_name" "is_name" sName f fd) (T : Glb mg) : FnOk P w K mg base CX0 1 f fd ["thing"] (spName (K := K)) := by
  refine F.ok scN (fun vs H Q E h => ?_) (fun cdv A outer s H vs Q E hr h => ?_)
  · rcases h with ⟨z, rfl, _⟩ | ⟨x, t, rfl, _⟩ <;> rfl
  · obtain ⟨t8, h8⟩ := T.longest
    refine ⟨_, pss_cons (ps_if (PW.pt (pw_or (pt_not (pt_val (pe_callB (call_isinst (T := "str")) (by rfl) T.isinst PyProof.Rows.boot_isinstance (pa_cons (pv 0) (pa_cons (pe_bltn (v := .ty "str") rfl T.str PyProof.Rows.boot_str rfl) pa_nil))) (fun _ => rfl)))
        (pw_or1 (pt_not (pt_chain op_le op_le pe_int (pe_callB call_len_str (by rfl) T.len PySem.boot_len (pa_cons (pv 0) pa_nil)) (pe_glob (v := .int 8) rfl h8 ⟨_, rfl⟩)))))) (pss_one (ps_ret pe_bl)) pss_nil)
      (pss_one (ps_ret (pe_callB (call_all rfl) (by rfl) T.all PyProof.Rows.boot_all (pa_cons (pe_lc ["sign"] [] rfl (compSc (osc := (defScope sName).names) (N := ["thing"]) rfl rfl (by decide +kernel)) (gk_name (by decide)) (pi_str (pv 0)) (fun _ _ _ => pg_name (i := 0) (show (["sign"] : List Str).Nodup by decide +kernel) rfl (Or.inl rfl)) (fun _ _ _ => pifs_nil)
        (fun _ _ _ => pe_chain op_le_str op_le_str pe_str (pv 0) pe_str)) pa_nil)))), ?_⟩
    rcases h with ⟨z, rfl, hz, k⟩ | ⟨x, t, rfl, ty, ki, k⟩
    · have hzs : z.length ≤ sizeLine := Nat.le_trans hz (by decide)
      refine ⟨_, rfl, _, _, true, rfl, .str z, rfl, _, rfl, ?_⟩
      refine iteF ?_
      refine ⟨_, rfl, z, rfl, hzs, _, _, rfl, rfl, _, rfl, ?_⟩
      refine ite2 (fun h1 => ?_) (fun h1 => ?_)
      · refine ⟨_, _, rfl, rfl, _, rfl, ?_⟩
        refine ite2 (fun h2 => ?_) (fun h2 => ?_)
        · have e : nm z = false := by
            have : ¬ z.length ≤ 8 := by simp at h2; omega
            simp [nm, this]
          exact e ▸ k H (Same.refl _)
        · have e : nm z = (z.cps.toList.map fun c => lo c && hi c).all id := by
            have a1 : 1 ≤ z.length := by simp at h1; omega
            have a2 : z.length ≤ 8 := by simp at h2; omega
            unfold nm
            rw [decide_eq_true a1, decide_eq_true a2]; rfl
          refine ⟨_, rfl, z, rfl, signs_loop (K := K) hzs (fun c => lo c && hi c) (fun c H Q q => ?_) (fun D hD => ⟨D, _, rfl, SqL.of upd_same, ?_⟩)⟩
          · refine ⟨_, rfl, _, _, rfl, rfl, _, rfl, ?_⟩
            have q' : Q (.bl (lo c && hi c)) H := q
            refine ite2 (fun h => ?_) (fun h => ?_)
            · refine ⟨_, _, rfl, rfl, ?_⟩
              have e1 : lo c = true := h
              rw [e1, Bool.true_and] at q'
              exact q'
            · have e1 : lo c = false := by simpa using (show ¬ lo c = true from h)
              rw [e1, Bool.false_and] at q'
              exact q'
          · exact e ▸ k _ fun c o q => by rw [upd_ne (ne_of_none q hD)]; exact q
      · refine ⟨_, rfl, ?_⟩
        have e : nm z = false := by
          have : ¬ 1 ≤ z.length := by simp at h1; omega
          simp [nm, this]
        exact iteT (e ▸ k H (Same.refl _))
    · refine ⟨_, rfl, _, _, false, rfl, ty, ki, _, rfl, ?_⟩
      exact iteT k
/-! ### a drawn text -/
theorem But.trans {p : Addr} {H H1 H2 : Hp} (a : But p H H1) (b : But p H1 H2) : But p H H2 := fun c o h n => b c o (a c o h n) n
theorem But.laid {p q : Addr} {H H1 : Hp} {o : HO} (a : But p H H1) (hq : H1 q = none) (hp : Row H1 p) : But p H (upd H1 q o) ∧ Row (upd H1 q o) p := by
  obtain ⟨x, y, hp⟩ := hp
  exact ⟨fun c u h n => by rw [upd_ne (ne_of_none (a c u h n) hq)]; exact a c u h n, x, y, by rw [upd_ne (ne_of_none hp hq)]; exact hp⟩
theorem letters26 : ("abcdefghijklmnopqrstuvwxyz" : Str).length = 26 := by decide +kernel
theorem lit_ix {z : Str} {d : Int} (h0 : 0 ≤ d) (h1 : d < (z.length : Int)) : ∃ c, atI z.cps.toList d = some c := by
  obtain ⟨n, rfl⟩ := Int.eq_ofNat_of_zero_le h0
  have hn : n < z.cps.toList.length := by
    have : n < z.length := by omega
    rw [Array.length_toList]; exact this
  exact ⟨z.cps.toList[n], atI_nat (by simp [hn])⟩
theorem same_upd {H : Hp} {a : Addr} {o : HO} (h : H a = none) : Same H (upd H a o) := fun b u e => by rw [upd_ne (ne_of_none e h)]; exact e
end
end K23

set_option Elab.async false
set_option linter.all false
set_option maxRecDepth 100000
set_option maxHeartbeats 4000000
namespace K23
open PySem PySem.Spec PyProof.Rows L2
section
variable {P : Program} {w : World} {K : PySem.W.Frag} {mg : Str → Option Value} {base : Heap}
def spWhole : Sp := fun vs H Q _ => ∃ x t b1 b2, vs = [x] ∧ TyOf K H x t ∧ PySem.W.kitOne K t (.type "int") = some b1 ∧ PySem.W.kitOne K t (.type "bool") = some b2 ∧ Q (.bl (b1 && !b2)) H
theorem scWh : FnScope ["thing"] ["thing"] (defScope sWhole) := ⟨rfl, rfl, rfl, by decide +kernel, rfl, by decide +kernel, by decide +kernel⟩
theorem ok_whole {f : Addr} {fd : FuncData} (F : Fun K "is_whole" "is_whole" sWhole f fd) (T : Glb mg) : FnOk P w K mg base CX0 1 f fd ["thing"] (spWhole (K := K)) := by
  refine F.ok scWh (fun vs H Q E h => ?_) (fun cdv A outer s H vs Q E hr h => ?_)
  · obtain ⟨x, t, b1, b2, rfl, _⟩ := h
    rfl
  · obtain ⟨x, t, b1, b2, rfl, ty, e1, e2, k⟩ := h
    refine ⟨_, pss_one (ps_ret (pe_and (pe_callB (call_isinst (T := "int")) (by rfl) T.isinst PyProof.Rows.boot_isinstance (pa_cons (pv 0) (pa_cons (pe_bltn (v := .ty "int") rfl T.int PyProof.Rows.boot_int rfl) pa_nil)))
      (pe_one (pe_not (pe_callB (call_isinst (T := "bool")) (by rfl) T.isinst PyProof.Rows.boot_isinstance (pa_cons (pv 0) (pa_cons (pe_bltn (v := .ty "bool") rfl T.bool PyProof.Rows.boot_bool rfl) pa_nil))))))), ?_⟩
    refine ⟨_, rfl, x, t, b1, rfl, ty, e1, _, rfl, ?_⟩
    cases b1
    · exact iteF k
    · exact iteT ⟨_, rfl, x, t, b2, rfl, ty, e2, _, rfl, k⟩
/-! ### the places -/
structure GoodP (ns : List Str) : Prop where
  one : 1 ≤ ns.length
  few : ns.length ≤ 12
  nms : ∀ z ∈ ns, nm z = true
  nd : ns.Nodup
theorem nm_len {z : Str} (h : nm z = true) : z.length ≤ 8 := by
  unfold nm at h
  simp only [Bool.and_eq_true, decide_eq_true_eq] at h
  exact h.1.2
def spChkP : Sp := fun vs H Q _ => ∃ (a : Addr) (ns : List Str), vs = [.ref a] ∧ H a = some (.lst (ns.map V.str)) ∧ GoodP ns ∧ ∀ H', Same H H' → Q .non H'
theorem scCP : FnScope ["places"] ["places"] (defScope sChkP) := ⟨rfl, rfl, rfl, by decide +kernel, rfl, by decide +kernel, by decide +kernel⟩
theorem ok_chkP {f fN : Addr} {fd fdN : FuncData} (F : Fun K "check_places" "check_places" sChkP f fd) (DN : Df K mg "is_name" sName ["thing"] fN fdN) (T : Glb mg) : FnOk P w K mg base CX0 2 f fd ["places"] spChkP := by
  have GN : FnOk P w K mg base CX0 1 fN fdN ["thing"] (spName (K := K)) := ok_name DN.fn T
  refine F.ok scCP (fun vs H Q E h => ?_) (fun cdv A outer s H vs Q E hr h => ?_)
  · obtain ⟨a, ns, rfl, _⟩ := h
    rfl
  · obtain ⟨a, ns, rfl, ha, g, k⟩ := h
    obtain ⟨t12, h12⟩ := T.places
    refine ⟨_, pss_cons (ps_if (PW.pt (pw_or (pt_not (pt_val (pe_callB (call_isinst (T := "list")) (by rfl) T.isinst PyProof.Rows.boot_isinstance (pa_cons (pv 0) (pa_cons (pe_bltn (v := .ty "list") rfl T.list PyProof.Rows.boot_list rfl) pa_nil))) (fun _ => rfl)))
        (pw_or1 (pt_not (pt_chain op_le op_le pe_int (pe_callB call_len_seq (by rfl) T.len PySem.boot_len (pa_cons (pv 0) pa_nil)) (pe_glob (v := .int 12) rfl h12 ⟨_, rfl⟩)))))) (pss_one ps_never) pss_nil)
      (pss_cons (ps_if (pt_not (pt_val (pe_callB (call_all rfl) (by rfl) T.all PyProof.Rows.boot_all (pa_cons (pe_lc ["place"] [] rfl (compSc (osc := (defScope sChkP).names) (N := ["places"]) rfl rfl (by decide +kernel)) (gk_name (by decide)) (pi_list (pv 0)) (fun _ _ _ => pg_name (i := 0) (show (["place"] : List Str).Nodup by decide +kernel) rfl (Or.inl rfl)) (fun _ _ _ => pifs_nil)
          (fun _ _ _ => pe_call GN hr rfl DN.mgf DN.fn.kp DN.b .nil pass0 (pa_cons (pv 0) pa_nil))) pa_nil)) (fun _ => rfl))) (pss_one ps_never) pss_nil)
      (pss_one (ps_if (pt_cmpR op_lt (pe_lenset rfl (pv 0) rfl T.len PySem.boot_len rfl T.set PyProof.Rows.boot_set) (pe_callB call_len_seq (by rfl) T.len PySem.boot_len (pa_cons (pv 0) pa_nil)) (nomark _)) (pss_one ps_never) pss_nil))), ?_⟩
    refine ⟨_, rfl, _, _, true, rfl, .lst ha, rfl, _, rfl, ?_⟩
    refine iteF ?_
    have le : (ns.map V.str).length = ns.length := List.length_map ..
    refine ⟨_, rfl, a, _, rfl, .inl (SqL.of ha), _, _, rfl, rfl, _, rfl, ?_⟩
    rw [le]
    have g1 := g.one
    have g2 := g.few
    refine ite2 (fun _ => ?_) (fun z => absurd z (by simp; omega))
    refine ⟨_, _, rfl, rfl, _, rfl, ?_⟩
    refine ite2 (fun z => absurd z (by simp; omega)) (fun _ => ?_)
    refine ⟨_, rfl, a, rfl, ⟨_, SqL.of ha⟩, lc_list (K := K) (xs := ns.map V.str) (fun i ys H2 => Same H H2 ∧ ys = List.replicate i (V.bl true)) ⟨Same.refl _, rfl⟩ ?_ ?_ ?_ ?_⟩
    · rintro i ys H2 hi ⟨_, rfl⟩
      rw [List.length_replicate]
      rw [le] at hi
      exact Nat.le_trans hi (Nat.le_trans g.few (by decide))
    · rintro i ys H2 _ ⟨s2, _⟩
      exact SqL.of (s2 _ _ ha)
    · rintro i x ys H2 R hx ⟨s2, rfl⟩ kR
      rw [List.getElem?_map] at hx
      obtain ⟨z, ez, rfl⟩ := Option.map_eq_some_iff.mp hx
      have gz := g.nms z (List.mem_of_getElem? ez)
      simp only [tYes, gName, if_true]
      refine ⟨_, rfl, .inl ⟨z, rfl, Nat.le_trans (nm_len gz) (by decide), fun H3 s3 => ?_⟩⟩
      rw [gz]
      exact kR _ _ ⟨s2.trans s3, by rw [List.replicate_succ']⟩
    · rintro ys H2 ⟨s2, rfl⟩ D hD
      rw [le]
      have e : List.replicate ns.length (V.bl true) = (List.replicate ns.length true).map V.bl := by simp
      refine ⟨D, List.replicate ns.length true, rfl, (by rw [e]; exact SqL.of upd_same), _, rfl, ?_⟩
      have e2 : (List.replicate ns.length true).all id = true := by simp
      rw [e2]
      refine iteF ?_
      have s3 : Same H (upd H2 D (.lst (List.replicate ns.length (V.bl true)))) := s2.trans (same_upd hD)
      refine ⟨_, rfl, a, ns, rfl, SqL.of (s3 _ _ ha), (by have := g.few; show ns.length + 1 < scanBound; exact Nat.lt_of_le_of_lt (Nat.succ_le_succ this) (by decide)), _, rfl, a, _, rfl, .inl (SqL.of (s3 _ _ ha)), _, _, rfl, rfl, _, rfl, ?_⟩
      rw [dist_nd g.nd, le]
      refine ite2 (fun z => absurd z (by simp)) (fun _ => ?_)
      exact k _ s3
end
end K23

set_option Elab.async false
set_option linter.all false
set_option maxRecDepth 100000
set_option maxHeartbeats 4000000
namespace K23
open PySem PySem.Spec PyProof.Rows L2
theorem inV_str (z : Str) (ns : List Str) : inV (.str z) (ns.map V.str) = decide (z ∈ ns) := by
  unfold inV
  rw [List.any_map, Bool.eq_iff_iff, decide_eq_true_iff]
  simp only [List.any_eq_true, Function.comp, eqV, beq_iff_eq]
  exact ⟨fun ⟨y, h, e⟩ => e ▸ h, fun h => ⟨z, h, rfl⟩⟩
theorem flat_strs (ns : List Str) : (ns.map V.str).all flatV = true := by
  rw [List.all_map, List.all_eq_true]
  intro _ _
  rfl
section
variable {P : Program} {w : World} {K : PySem.W.Frag} {mg : Str → Option Value} {base : Heap}
def spAmong : Sp := fun vs H Q _ => (∃ (a : Addr) (ns : List Str) (z : Str), vs = [.ref a, .str z] ∧ SqL K H a (ns.map V.str) ∧ Q (.bl (decide (z ∈ ns))) H) ∨ ∃ (a : Addr) (x : V) (t : Value), vs = [.ref a, x] ∧ TyOf K H x t ∧ PySem.W.kitOne K t (.type "str") = some false ∧ Q (.bl false) H
theorem scAm : FnScope ["places", "thing"] ["places", "thing"] (defScope sAmong) := ⟨rfl, rfl, rfl, by decide +kernel, rfl, by decide +kernel, by decide +kernel⟩
theorem ok_among {f : Addr} {fd : FuncData} (F : Fun K "is_among" "is_among" sAmong f fd) (T : Glb mg) : FnOk P w K mg base CX0 1 f fd ["places", "thing"] (spAmong (K := K)) := by
  refine F.ok scAm (fun vs H Q E h => ?_) (fun cdv A outer s H vs Q E hr h => ?_)
  · rcases h with ⟨a, ns, z, rfl, _⟩ | ⟨a, x, t, rfl, _⟩ <;> rfl
  · refine ⟨_, pss_one (ps_ret (pe_and (pe_callB (call_isinst (T := "str")) (by rfl) T.isinst PyProof.Rows.boot_isinstance (pa_cons (pv 1) (pa_cons (pe_bltn (v := .ty "str") rfl T.str PyProof.Rows.boot_str rfl) pa_nil))) (pe_one (pe_cmpR op_in_seq (pv 1) (pv 0) rfl)))), ?_⟩
    rcases h with ⟨a, ns, z, rfl, ha, k⟩ | ⟨a, x, t, rfl, ty, e, k⟩
    · refine ⟨_, rfl, _, _, true, rfl, .str z, rfl, _, rfl, ?_⟩
      refine iteT ⟨_, rfl, _, rfl, a, _, rfl, .inl ha, rfl, flat_strs ns, ?_⟩
      rw [inV_str]
      exact k
    · refine ⟨_, rfl, x, t, false, rfl, ty, e, _, rfl, ?_⟩
      exact iteF k
def spTie : Sp := fun vs H Q _ => ∃ (a : Addr) (ns : List Str) (t : Addr) (x y : Str), vs = [.ref a, .ref t] ∧ SqL K H a (ns.map V.str) ∧ H t = some (.tup [.str x, .str y]) ∧ Q (.bl (decide (x ∈ ns) && decide (y ∈ ns))) H
theorem scTi : FnScope ["places", "thing"] ["places", "thing"] (defScope sTie) := ⟨rfl, rfl, rfl, by decide +kernel, rfl, by decide +kernel, by decide +kernel⟩
theorem ok_tie {f fA : Addr} {fd fdA : FuncData} (F : Fun K "is_tie" "is_tie" sTie f fd) (DA : Df K mg "is_among" sAmong ["places", "thing"] fA fdA) (T : Glb mg) : FnOk P w K mg base CX0 2 f fd ["places", "thing"] (spTie (K := K)) := by
  have GA : FnOk P w K mg base CX0 1 fA fdA ["places", "thing"] (spAmong (K := K)) := ok_among DA.fn T
  refine F.ok scTi (fun vs H Q E h => ?_) (fun cdv A outer s H vs Q E hr h => ?_)
  · obtain ⟨a, ns, t, x, y, rfl, _⟩ := h
    rfl
  · obtain ⟨a, ns, t, x, y, rfl, ha, ht, k⟩ := h
    refine ⟨_, pss_cons (ps_if (PW.pt (pw_or (pt_not (pt_val (pe_callB (call_isinst (T := "tuple")) (by rfl) T.isinst PyProof.Rows.boot_isinstance (pa_cons (pv 1) (pa_cons (pe_bltn (v := .ty "tuple") rfl T.tuple PyProof.Rows.boot_tuple rfl) pa_nil))) (fun _ => rfl)))
        (pw_or1 (pt_cmpR op_ne (pe_callB call_len_seq (by rfl) T.len PySem.boot_len (pa_cons (pv 1) pa_nil)) pe_int (nomark _))))) (pss_one (ps_ret pe_bl)) pss_nil)
      (pss_one (ps_ret (pe_and (pe_call GA hr rfl DA.mgf DA.fn.kp DA.b .nil pass0 (pa_cons (pv 0) (pa_cons (pe_ix ix_tup (pv 1) pe_int (fun _ _ => rfl)) pa_nil))) (pe_one (pe_call GA hr rfl DA.mgf DA.fn.kp DA.b .nil pass0 (pa_cons (pv 0) (pa_cons (pe_ix ix_tup (pv 1) pe_int (fun _ _ => rfl)) pa_nil))))))), ?_⟩
    refine ⟨_, rfl, _, _, true, rfl, .tup ht, rfl, _, rfl, ?_⟩
    refine iteF ⟨_, rfl, t, _, rfl, .inr (SqT.of ht), rfl, _, rfl, ?_⟩
    refine iteF ?_
    refine ⟨_, rfl, _, rfl, t, _, _, _, rfl, rfl, SqT.of ht, atI_nat (j := 0) rfl, .inl ⟨a, ns, x, rfl, ha, _, rfl, ?_⟩⟩
    refine ite2 (fun e => ?_) (fun e => ?_)
    · refine ⟨_, rfl, _, rfl, t, _, _, _, rfl, rfl, SqT.of ht, atI_nat (j := 1) rfl, .inl ⟨a, ns, y, rfl, ha, ?_⟩⟩
      rw [e, Bool.true_and] at k
      exact k
    · rw [Bool.eq_false_iff.mpr e, Bool.false_and] at k
      exact k
/-! ### ties -/
/-- the tuples at ts are these pairs -/
def TiesAt (H : Hp) : List Addr → List (Str × Str) → Prop := Paired fun t p => H t = some (.tup [.str p.1, .str p.2])
def InP (ns : List Str) (ps : List (Str × Str)) : Prop := ∀ p ∈ ps, p.1 ∈ ns ∧ p.2 ∈ ns
theorem TiesAt.mono {H H' : Hp} {ts : List Addr} {ps : List (Str × Str)} (h : TiesAt H ts ps) (k : ∀ t xs, H t = some (.tup xs) → H' t = some (.tup xs)) : TiesAt H' ts ps := Paired.mapP h fun t p e => k t _ e
theorem TiesAt.same {H H' : Hp} {ts : List Addr} {ps : List (Str × Str)} (h : TiesAt H ts ps) (s : Same H H') : TiesAt H' ts ps := h.mono fun t xs e => s t _ e
theorem TiesAt.but {p : Addr} {H H' : Hp} {ts : List Addr} {ps : List (Str × Str)} (h : TiesAt H ts ps) (s : But p H H') (np : ∀ xs, H p ≠ some (.tup xs)) : TiesAt H' ts ps := h.mono fun t xs e => s t _ e fun z => np xs (z ▸ e)
theorem TiesAt.len {H : Hp} {ts : List Addr} {ps : List (Str × Str)} (h : TiesAt H ts ps) : ts.length = ps.length := Paired.length h
theorem TiesAt.get {H : Hp} : ∀ {ts : List Addr} {ps : List (Str × Str)} {i : Nat} {t : Addr}, TiesAt H ts ps → ts[i]? = some t → ∃ p, ps[i]? = some p ∧ H t = some (.tup [.str p.1, .str p.2])
  | _, _, _, _, .nil, e => by simp at e
  | _, _, 0, _, .cons r _, e => by simp at e; subst e; exact ⟨_, rfl, r⟩
  | _, _, i + 1, t, .cons _ h, e => by
    obtain ⟨p, h1, h2⟩ := TiesAt.get (i := i) (t := t) h (by simpa using e)
    exact ⟨p, by simpa using h1, h2⟩
theorem TiesAt.snoc {H : Hp} {ts : List Addr} {ps : List (Str × Str)} {t : Addr} {p : Str × Str} (h : TiesAt H ts ps) (e : H t = some (.tup [.str p.1, .str p.2])) : TiesAt H (ts ++ [t]) (ps ++ [p]) := Paired.snoc h e
def spChkT : Sp := fun vs H Q _ => ∃ (a b : Addr) (ns : List Str) (ts : List Addr) (ps : List (Str × Str)), vs = [.ref a, .ref b] ∧ H a = some (.lst (ns.map V.str)) ∧ H b = some (.lst (ts.map V.ref)) ∧ TiesAt H ts ps ∧ InP ns ps ∧ ps.length ≤ 30 ∧ ∀ H', Same H H' → Q .non H'
theorem scCT : FnScope ["places", "ties"] ["places", "ties"] (defScope sChkT) := ⟨rfl, rfl, rfl, by decide +kernel, rfl, by decide +kernel, by decide +kernel⟩
theorem ok_chkT {f fA fT : Addr} {fd fdA fdT : FuncData} (F : Fun K "check_ties" "check_ties" sChkT f fd) (DA : Df K mg "is_among" sAmong ["places", "thing"] fA fdA) (DT : Df K mg "is_tie" sTie ["places", "thing"] fT fdT) (T : Glb mg) : FnOk P w K mg base CX0 3 f fd ["places", "ties"] spChkT := by
  have GT : FnOk P w K mg base CX0 2 fT fdT ["places", "thing"] (spTie (K := K)) := ok_tie DT.fn DA T
  refine F.ok scCT (fun vs H Q E h => ?_) (fun cdv A outer s H vs Q E hr h => ?_)
  · obtain ⟨a, b, ns, ts, ps, rfl, _⟩ := h
    rfl
  · obtain ⟨a, b, ns, ts, ps, rfl, ha, hb, hT, hI, few, k⟩ := h
    obtain ⟨t30, h30⟩ := T.ties
    refine ⟨_, pss_cons (ps_if (PW.pt (pw_or (pt_not (pt_val (pe_callB (call_isinst (T := "list")) (by rfl) T.isinst PyProof.Rows.boot_isinstance (pa_cons (pv 1) (pa_cons (pe_bltn (v := .ty "list") rfl T.list PyProof.Rows.boot_list rfl) pa_nil))) (fun _ => rfl)))
        (pw_or1 (pt_cmpR op_gt (pe_callB call_len_seq (by rfl) T.len PySem.boot_len (pa_cons (pv 1) pa_nil)) (pe_glob (v := .int 30) rfl h30 ⟨_, rfl⟩) (nomark _))))) (pss_one ps_never) pss_nil)
      (pss_one (ps_if (pt_not (pt_val (pe_callB (call_all rfl) (by rfl) T.all PyProof.Rows.boot_all (pa_cons (pe_lc ["tie"] [0] rfl (compSc (osc := (defScope sChkT).names) (N := ["places", "ties"]) rfl rfl (by decide +kernel)) (gk_name (by decide)) (pi_list (pv 1)) (fun _ _ _ => pg_name (i := 0) (show (["tie", "places"] : List Str).Nodup by decide +kernel) rfl (Or.inl rfl)) (fun _ _ _ => pifs_nil)
          (fun _ _ _ => pe_call GT hr rfl DT.mgf DT.fn.kp DT.b .nil pass0 (pa_cons (pv 1) (pa_cons (pv 0) pa_nil)))) pa_nil)) (fun _ => rfl))) (pss_one ps_never) pss_nil)), ?_⟩
    have le : (ts.map V.ref).length = ps.length := by rw [List.length_map, hT.len]
    refine ⟨_, rfl, _, _, true, rfl, .lst hb, rfl, _, rfl, ?_⟩
    refine iteF ⟨_, rfl, b, _, rfl, .inl (SqL.of hb), _, _, rfl, rfl, _, rfl, ?_⟩
    rw [le]
    refine ite2 (fun z => absurd z (by simp; omega)) (fun _ => ?_)
    refine ⟨_, rfl, b, rfl, ⟨_, SqL.of hb⟩, lc_list (K := K) (xs := ts.map V.ref) (fun i ys H2 => Same H H2 ∧ ys = List.replicate i (V.bl true)) ⟨Same.refl _, rfl⟩ ?_ ?_ ?_ ?_⟩
    · rintro i ys H2 hi ⟨_, rfl⟩
      rw [List.length_replicate]
      rw [le] at hi
      exact Nat.le_trans hi (Nat.le_trans few (by decide))
    · rintro i ys H2 _ ⟨s2, _⟩
      exact SqL.of (s2 _ _ hb)
    · rintro i x ys H2 R hx ⟨s2, rfl⟩ kR
      rw [List.getElem?_map] at hx
      obtain ⟨t, et, rfl⟩ := Option.map_eq_some_iff.mp hx
      obtain ⟨p, ep, ht⟩ := hT.get et
      obtain ⟨i1, i2⟩ := hI p (List.mem_of_getElem? ep)
      simp only [tYes, gName, if_true]
      refine ⟨_, rfl, _, rfl, a, ns, t, p.1, p.2, rfl, SqL.of (s2 _ _ ha), s2 _ _ ht, ?_⟩
      rw [decide_eq_true i1, decide_eq_true i2]
      exact kR _ _ ⟨s2, by rw [List.replicate_succ']; rfl⟩
    · rintro ys H2 ⟨s2, rfl⟩ D hD
      have e : List.replicate (ts.map V.ref).length (V.bl true) = (List.replicate (ts.map V.ref).length true).map V.bl := by simp
      refine ⟨D, List.replicate (ts.map V.ref).length true, rfl, (by rw [e]; exact SqL.of upd_same), _, rfl, ?_⟩
      have e2 : (List.replicate (ts.map V.ref).length true).all id = true := by simp
      rw [e2]
      exact iteF (k _ (s2.trans (same_upd hD)))
end
end K23

set_option Elab.async false
set_option linter.all false
set_option maxRecDepth 100000
set_option maxHeartbeats 4000000
namespace K23
open PySem PySem.Spec PyProof.Rows L2
/-- the class of webs -/
structure WC (K : PySem.W.Frag) (mg : Str → Option Value) (C : Addr) : Prop where
  cl : Cls K C
  nP : NoAttr K C "kept_places"
  nT : NoAttr K C "kept_ties"
  mgC : mg "Web" = some (.ref C)
def wf (kp kt : Addr) : List (Str × V) := [("kept_places", .ref kp), ("kept_ties", .ref kt)]
/-- a web stands at x -/
def WebObj (C : Addr) (H : Hp) (x : Addr) (ns : List Str) (ps : List (Str × Str)) : Prop :=
  ∃ dx kp kt ts, H x = some (.ins C dx (wf kp kt)) ∧ H kp = some (.tup ((srt ns).map V.str)) ∧ H kt = some (.tup (ts.map V.ref)) ∧ TiesAt H ts ps
theorem WebObj.same {C : Addr} {H H' : Hp} {x : Addr} {ns : List Str} {ps : List (Str × Str)} (h : WebObj C H x ns ps) (s : Same H H') : WebObj C H' x ns ps :=
  let ⟨dx, kp, kt, ts, h1, h2, h3, h4⟩ := h
  ⟨dx, kp, kt, ts, s _ _ h1, s _ _ h2, s _ _ h3, h4.same s⟩
theorem wf_p (kp kt : Addr) : (wf kp kt).lookup ("kept_places" : Str) = some (V.ref kp) := rfl
theorem wf_t (kp kt : Addr) : (wf kp kt).lookup ("kept_ties" : Str) = some (V.ref kt) := by
  show List.lookup _ (_ :: _) = _
  rw [List.lookup_cons, show (("kept_ties" : Str) == "kept_places") = false by decide +kernel]
  rfl
theorem wf_no (kp kt : Addr) (m : Str) (h1 : (m == ("kept_places" : Str)) = false) (h2 : (m == ("kept_ties" : Str)) = false) : (wf kp kt).lookup m = none := by
  show List.lookup _ (_ :: _) = _
  rw [List.lookup_cons, h1]
  show List.lookup _ (_ :: _) = _
  rw [List.lookup_cons, h2]
  rfl
section
variable {P : Program} {w : World} {K : PySem.W.Frag} {mg : Str → Option Value} {base : Heap}
/-- the lists of a web: names at a, ties at b -/
structure Lists (H : Hp) (a b : Addr) (ns : List Str) (ps : List (Str × Str)) (ts : List Addr) : Prop where
  ha : H a = some (.lst (ns.map V.str))
  hb : H b = some (.lst (ts.map V.ref))
  hT : TiesAt H ts ps
  good : GoodP ns
  ins : InP ns ps
  few : ps.length ≤ 30
theorem Lists.same {H H' : Hp} {a b : Addr} {ns : List Str} {ps : List (Str × Str)} {ts : List Addr} (h : Lists H a b ns ps ts) (s : Same H H') : Lists H' a b ns ps ts := ⟨s _ _ h.ha, s _ _ h.hb, h.hT.same s, h.good, h.ins, h.few⟩
def spInit (C : Addr) : Sp := fun vs H Q _ => ∃ (x a b : Addr) (ns : List Str) (ps : List (Str × Str)) (ts : List Addr), vs = [.ref x, .ref a, .ref b] ∧ (∃ dx, H x = some (.ins C dx [])) ∧ Lists H a b ns ps ts ∧ ∀ H', WebObj C H' x ns ps → But x H H' → Q .non H'
theorem scIn : FnScope ["self", "places", "ties"] ["self", "places", "ties"] (defScope sInit) := ⟨rfl, rfl, rfl, by decide +kernel, rfl, by decide +kernel, by decide +kernel⟩
theorem ok_init {C f fN fA fT f1 f2 : Addr} {fd fdN fdA fdT fd1 fd2 : FuncData} (F : Fun K "__init__" "Web.__init__" sInit f fd) (W : WC K mg C) (DN : Df K mg "is_name" sName ["thing"] fN fdN) (DA : Df K mg "is_among" sAmong ["places", "thing"] fA fdA) (DT : Df K mg "is_tie" sTie ["places", "thing"] fT fdT)
    (D1 : Df K mg "check_places" sChkP ["places"] f1 fd1) (D2 : Df K mg "check_ties" sChkT ["places", "ties"] f2 fd2) (T : Glb mg) : FnOk P w K mg base CX0 4 f fd ["self", "places", "ties"] (spInit C) := by
  have G1 : FnOk P w K mg base CX0 2 f1 fd1 ["places"] spChkP := ok_chkP D1.fn DN T
  have G2 : FnOk P w K mg base CX0 3 f2 fd2 ["places", "ties"] spChkT := ok_chkT D2.fn DA DT T
  refine F.ok scIn (fun vs H Q E h => ?_) (fun cdv A outer s H vs Q E hr h => ?_)
  · obtain ⟨x, a, b, ns, ps, ts, rfl, _⟩ := h
    rfl
  · obtain ⟨x, a, b, ns, ps, ts, rfl, ⟨dx, hx⟩, L, k⟩ := h
    refine ⟨_, pss_cons (ps_expr (pe_call G1 (hr.mono (by decide)) rfl D1.mgf D1.fn.kp D1.b .nil pass0 (pa_cons (pv 1) pa_nil)))
      (pss_cons (ps_expr (pe_call G2 (hr.mono (by decide)) rfl D2.mgf D2.fn.kp D2.b .nil pass0 (pa_cons (pv 1) (pa_cons (pv 2) pa_nil))))
      (pss_cons (ps_fld (pv 0) (pe_callTy call_tuple_of (by rfl) T.tuple PyProof.Rows.boot_tuple (pa_cons (pe_callB call_sorted_txt (by rfl) T.sorted PyProof.Rows.boot_sorted (pa_cons (pv 1) pa_nil)) pa_nil)) rfl)
      (pss_one (ps_fld (pv 0) (pe_callTy call_tuple_of (by rfl) T.tuple PyProof.Rows.boot_tuple (pa_cons (pe_lc ["a", "b"] [] rfl (compSc (osc := (defScope sInit).names) (N := ["self", "places", "ties"]) rfl rfl (by decide +kernel)) (gk_two (k := 2) (by decide) (by decide)) (pi_list (pv 2))
        (fun _ _ _ => pg_tup (n := 2) rfl (pgs_cons (pg_name (i := 0) (show (["a", "b"] : List Str).Nodup by decide +kernel) rfl (Or.inl rfl)) (pgs_cons (pg_name (i := 1) (show (["a", "b"] : List Str).Nodup by decide +kernel) rfl (Or.inl rfl)) pgs_nil))) (fun _ _ _ => pifs_nil)
        (fun _ _ _ => pe_tup (pa_cons (pv 0) (pa_cons (pv 1) pa_nil)))) pa_nil)) rfl)))), ?_⟩
    refine ⟨_, rfl, a, ns, rfl, L.ha, L.good, fun H1 s1 => ?_⟩
    have L1 := L.same s1
    refine ⟨_, rfl, _, rfl, a, b, ns, ts, ps, rfl, L1.ha, L1.hb, L1.hT, L1.ins, L1.few, fun H2 s2 => ?_⟩
    have L2' := L1.same s2
    refine ⟨_, rfl, a, ns, rfl, SqL.of L2'.ha, Nat.lt_of_le_of_lt L.good.few (by decide), fun l hl => ?_⟩
    refine ⟨l, _, rfl, .inl ⟨SqL.of upd_same, fun kp hkp => ?_⟩⟩
    have s3 : Same H2 (upd (upd H2 l (.lst ((srt ns).map V.str))) kp (.tup ((srt ns).map V.str))) := (same_upd hl).trans (same_upd hkp)
    have s03 := (s1.trans s2).trans s3
    have hkp3 := upd_same (H := upd H2 l (.lst ((srt ns).map V.str))) (a := kp) (o := .tup ((srt ns).map V.str))
    generalize upd (upd H2 l (.lst ((srt ns).map V.str))) kp (.tup ((srt ns).map V.str)) = H3 at s3 s03 hkp3 ⊢
    have hx3 := s03 _ _ hx
    refine ⟨_, rfl, x, C, dx, _, rfl, hx3, W.cl, W.nP, (by show 0 < 1000; decide), ?_⟩
    have L3 := L.same s03
    have nax : a ≠ x := ne_of L3.ha hx3 (by intro z; cases z)
    have nbx : b ≠ x := ne_of L3.hb hx3 (by intro z; cases z)
    have nkx : kp ≠ x := ne_of hkp3 hx3 (by intro z; cases z)
    have L4 : Lists (upd H3 x (.ins C dx (putF "kept_places" (.ref kp) []))) a b ns ps ts := ⟨by rw [upd_ne nax]; exact L3.ha, by rw [upd_ne nbx]; exact L3.hb, L3.hT.mono fun t xs e => by rw [upd_ne (ne_of e hx3 (by intro z; cases z))]; exact e, L.good, L.ins, L.few⟩
    have b4 : But x H (upd H3 x (.ins C dx (putF "kept_places" (.ref kp) []))) := fun c o e n => by rw [upd_ne n]; exact s03 _ _ e
    have hx4 := upd_same (H := H3) (a := x) (o := .ins C dx (putF "kept_places" (.ref kp) []))
    have hkp4 : (upd H3 x (.ins C dx (putF "kept_places" (.ref kp) []))) kp = some (.tup ((srt ns).map V.str)) := by rw [upd_ne nkx]; exact hkp3
    generalize upd H3 x (.ins C dx (putF "kept_places" (.ref kp) [])) = H4 at L4 b4 hx4 hkp4 ⊢
    have le : (ts.map V.ref).length = ps.length := by rw [List.length_map, L.hT.len]
    refine ⟨_, rfl, b, rfl, ⟨_, SqL.of L4.hb⟩, lc_list (K := K) (xs := ts.map V.ref) (fun i ys H5 => Same H4 H5 ∧ ∃ us : List Addr, ys = us.map V.ref ∧ us.length = i ∧ TiesAt H5 us (ps.take i)) ⟨Same.refl _, [], rfl, rfl, .nil⟩ ?_ ?_ ?_ ?_⟩
    · rintro i ys H5 hi ⟨_, us, rfl, e, _⟩
      rw [List.length_map, e]
      rw [le] at hi
      exact Nat.le_trans hi (Nat.le_trans L.few (by decide))
    · rintro i ys H5 _ ⟨s5, _⟩
      exact SqL.of (s5 _ _ L4.hb)
    · rintro i y ys H5 R hy ⟨s5, us, rfl, e, hU⟩ kR
      rw [List.getElem?_map] at hy
      obtain ⟨t, et, rfl⟩ := Option.map_eq_some_iff.mp hy
      obtain ⟨p, ep, ht⟩ := L4.hT.get et
      refine ⟨t, _, rfl, SqT.of (s5 _ _ ht), rfl, _, _, rfl, _, _, rfl, rfl, ?_⟩
      simp only [tYes, if_true]
      refine ⟨_, rfl, _, rfl, (by show 2 ≤ sizeLine; decide), fun u hu => ?_⟩
      have e2 : us.map V.ref ++ [V.ref u] = (us ++ [u]).map V.ref := by simp
      refine kR _ _ ⟨s5.trans (same_upd hu), us ++ [u], e2, by simp [e], ?_⟩
      rw [List.take_add_one, ep]
      exact (hU.same (same_upd hu)).snoc upd_same
    · rintro ys H5 ⟨s5, us, rfl, e, hU⟩ D hD
      rw [le, List.take_of_length_le (Nat.le_refl _)] at hU
      refine ⟨D, _, rfl, .inl ⟨SqL.of upd_same, fun kt hkt => ?_⟩⟩
      have s6 : Same H4 (upd (upd H5 D (.lst (us.map V.ref))) kt (.tup (us.map V.ref))) := s5.trans ((same_upd hD).trans (same_upd hkt))
      have hU6 := hU.same ((same_upd (o := .lst (us.map V.ref)) hD).trans (same_upd (o := .tup (us.map V.ref)) hkt))
      have hkt6 := upd_same (H := upd H5 D (.lst (us.map V.ref))) (a := kt) (o := .tup (us.map V.ref))
      generalize upd (upd H5 D (.lst (us.map V.ref))) kt (.tup (us.map V.ref)) = H6 at s6 hU6 hkt6 ⊢
      have hx6 := s6 _ _ hx4
      refine ⟨_, rfl, x, C, dx, _, rfl, hx6, W.cl, W.nT, (by show 1 < 1000; decide), ?_⟩
      refine k _ ⟨dx, kp, kt, us, ?_, ?_, ?_, ?_⟩ fun c o e n => ?_
      · rw [upd_same]
        show some (HO.ins C dx (putF "kept_ties" (.ref kt) (putF "kept_places" (.ref kp) []))) = _
        rfl
      · rw [upd_ne (ne_of (s6 _ _ hkp4) hx6 (by intro z; cases z))]; exact s6 _ _ hkp4
      · rw [upd_ne (ne_of hkt6 hx6 (by intro z; cases z))]; exact hkt6
      · exact hU6.mono fun t xs e => by rw [upd_ne (ne_of e hx6 (by intro z; cases z))]; exact e
      · rw [upd_ne n]; exact s6 _ _ (b4 c o e n)
/-! ### places, many, tie, ties -/
def spPl (C : Addr) : Sp := fun vs H Q _ => ∃ (x : Addr) (ns : List Str) (ps : List (Str × Str)), vs = [.ref x] ∧ WebObj C H x ns ps ∧ ∀ l, H l = none → Q (.ref l) (upd H l (.lst ((srt ns).map V.str)))
theorem scPl : FnScope ["self"] ["self"] (defScope sPlaces) := ⟨rfl, rfl, rfl, by decide +kernel, rfl, by decide +kernel, by decide +kernel⟩
theorem ok_places {C f : Addr} {fd : FuncData} (F : Fun K "places" "Web.places" sPlaces f fd) (W : WC K mg C) (T : Glb mg) : FnOk P w K mg base CX0 1 f fd ["self"] (spPl C) := by
  refine F.ok scPl (fun vs H Q E h => ?_) (fun cdv A outer s H vs Q E hr h => ?_)
  · obtain ⟨x, ns, ps, rfl, _⟩ := h
    rfl
  · obtain ⟨x, ns, ps, rfl, ⟨dx, kp, kt, ts, h1, h2, h3, h4⟩, k⟩ := h
    refine ⟨_, pss_one (ps_ret (pe_callTy call_list_of (by rfl) T.list PyProof.Rows.boot_list (pa_cons (pe_fld (pv 0) rfl) pa_nil))), ?_⟩
    exact ⟨_, rfl, x, C, dx, _, _, rfl, h1, W.cl, W.nP, wf_p kp kt, kp, _, rfl, .inr (SqT.of h2), k⟩
def spTs (C : Addr) : Sp := fun vs H Q _ => ∃ (x : Addr) (ns : List Str) (ps : List (Str × Str)), vs = [.ref x] ∧ WebObj C H x ns ps ∧ ∀ l us, H l = none → TiesAt H us ps → Q (.ref l) (upd H l (.lst (us.map V.ref)))
theorem scTs : FnScope ["self"] ["self"] (defScope sTies) := ⟨rfl, rfl, rfl, by decide +kernel, rfl, by decide +kernel, by decide +kernel⟩
theorem ok_ties {C f : Addr} {fd : FuncData} (F : Fun K "ties" "Web.ties" sTies f fd) (W : WC K mg C) (T : Glb mg) : FnOk P w K mg base CX0 1 f fd ["self"] (spTs C) := by
  refine F.ok scTs (fun vs H Q E h => ?_) (fun cdv A outer s H vs Q E hr h => ?_)
  · obtain ⟨x, ns, ps, rfl, _⟩ := h
    rfl
  · obtain ⟨x, ns, ps, rfl, ⟨dx, kp, kt, ts, h1, h2, h3, h4⟩, k⟩ := h
    refine ⟨_, pss_one (ps_ret (pe_callTy call_list_of (by rfl) T.list PyProof.Rows.boot_list (pa_cons (pe_fld (pv 0) rfl) pa_nil))), ?_⟩
    exact ⟨_, rfl, x, C, dx, _, _, rfl, h1, W.cl, W.nT, wf_t kp kt, kt, _, rfl, .inr (SqT.of h3), fun l hl => k l ts hl h4⟩
end
end K23

set_option Elab.async false
set_option linter.all false
set_option maxRecDepth 100000
set_option maxHeartbeats 4000000
namespace K23
open PySem PySem.Spec PyProof.Rows L2
section
variable {P : Program} {w : World} {K : PySem.W.Frag} {mg : Str → Option Value} {base : Heap}
/-- an own error class of the text -/
structure Ex (K : PySem.W.Frag) (mg : Str → Option Value) (x : Str) (C : Addr) : Prop where
  b : mg x = some (.ref C)
  bm : ∃ Bn newId initId bm, PySem.W.excIn K C bm newId = true ∧ ExcBaseFacts Bn newId initId bm
/-- tie: its answer at a number of a tie; else it raises the class at E1 -/
def spTieM (C E1 : Addr) : Sp := fun vs H Q R => ∃ (x : Addr) (ns : List Str) (ps : List (Str × Str)) (y : V), vs = [.ref x, y] ∧ WebObj C H x ns ps ∧
  ((∃ (i : Nat) (p : Str × Str), y = .int i ∧ ps[i]? = some p ∧ ∀ t, H t = some (.tup [.str p.1, .str p.2]) → Q (.ref t) H) ∨
   (∃ t b1 b2, TyOf K H y t ∧ PySem.W.kitOne K t (.type "int") = some b1 ∧ PySem.W.kitOne K t (.type "bool") = some b2 ∧ ((b1 && !b2) = false ∨ ((b1 && !b2) = true ∧ ∃ i : Int, y = .int i ∧ (i < 0 ∨ (ps.length : Int) ≤ i))) ∧ R (.ref E1) none H))
theorem scTM : FnScope ["self", "k"] ["self", "k"] (defScope sTieM) := ⟨rfl, rfl, rfl, by decide +kernel, rfl, by decide +kernel, by decide +kernel⟩
theorem ok_tieM {C E1 f fW : Addr} {fd fdW : FuncData} (F : Fun K "tie" "Web.tie" sTieM f fd) (W : WC K mg C) (DW : Df K mg "is_whole" sWhole ["thing"] fW fdW) (X1 : Ex K mg "NoTie" E1) (T : Glb mg) : FnOk P w K mg base (CXO P w) 2 f fd ["self", "k"] (spTieM (K := K) C E1) := by
  have GW : FnOk P w K mg base CX0 1 fW fdW ["thing"] (spWhole (K := K)) := ok_whole DW.fn T
  refine F.okO scTM (fun vs H Q E h => ?_) (fun cdv A outer s H vs Q E hr h => ?_)
  · obtain ⟨x, ns, ps, y, rfl, _⟩ := h
    rfl
  · obtain ⟨x, ns, ps, y, rfl, ⟨dx, kp, kt, ts, h1, h2, h3, h4⟩, h⟩ := h
    obtain ⟨Bn, newId, initId, bm, q, FB⟩ := X1.bm
    refine ⟨_, pss_cons (ps_if (PW.pt (pw_or (pt_not (pt_val (pe_call GW hr rfl DW.mgf DW.fn.kp DW.b .nil pass0 (pa_cons (pv 1) pa_nil)) (fun _ => rfl)))
        (pw_or1 (pt_not (pt_chain op_le op_lt pe_int (pv 1) (pe_callB call_len_seq (by rfl) T.len PySem.boot_len (pa_cons (pe_fld (pv 0) rfl) pa_nil))))))) (pss_one (ps_raise rfl X1.b q FB (pa_cons pe_str pa_nil))) pss_nil)
      (pss_one (ps_ret (pe_ix ix_tup (pe_fld (pv 0) rfl) (pv 1) (fun _ _ => rfl)))), ?_⟩
    rcases h with ⟨i, p, rfl, ep, k⟩ | ⟨t, b1, b2, ty, e1, e2, no, k⟩
    · have hi : i < ps.length := (List.getElem?_eq_some_iff.mp ep).1
      refine ⟨_, rfl, _, _, true, false, rfl, .int _, rfl, rfl, _, rfl, ?_⟩
      refine iteF ⟨_, rfl, _, _, rfl, rfl, _, rfl, ?_⟩
      refine ite2 (fun _ => ?_) (fun z => absurd z (by simp))
      refine ⟨_, rfl, x, C, dx, _, _, rfl, h1, W.cl, W.nT, wf_t kp kt, kt, _, rfl, .inr (SqT.of h3), _, _, rfl, rfl, _, rfl, ?_⟩
      rw [List.length_map, h4.len]
      refine ite2 (fun z => absurd z (by simp; omega)) (fun _ => ?_)
      have hit : i < ts.length := by rw [h4.len]; exact hi
      obtain ⟨p', ep', ht⟩ := h4.get (List.getElem?_eq_getElem hit)
      rw [ep] at ep'
      cases ep'
      exact ⟨_, rfl, x, C, dx, _, _, rfl, h1, W.cl, W.nT, wf_t kp kt, _, rfl, kt, _, _, _, rfl, rfl, SqT.of h3, atI_nat (j := i) (v := .ref ts[i]) (by rw [List.getElem?_map, List.getElem?_eq_getElem hit]; rfl), k _ ht⟩
    · refine ⟨_, rfl, y, t, b1, b2, rfl, ty, e1, e2, _, rfl, ?_⟩
      have fin : tRaise E1 (tCons (tC (.str "it is no number of a tie of the web")) tNil) E { nx := fun _ H' => Q .non H', rt := Q } (start ["self", "k"] [.ref x, y]) H := ⟨by decide, k⟩
      rcases no with no | ⟨no, i, rfl, no2⟩
      · rw [no]
        exact iteT fin
      · rw [no]
        refine iteF ⟨_, rfl, _, _, rfl, rfl, _, rfl, ?_⟩
        refine ite2 (fun z => ?_) (fun _ => ⟨_, rfl, iteT fin⟩)
        refine ⟨_, rfl, x, C, dx, _, _, rfl, h1, W.cl, W.nT, wf_t kp kt, kt, _, rfl, .inr (SqT.of h3), _, _, rfl, rfl, _, rfl, ?_⟩
        rw [List.length_map, h4.len]
        refine ite2 (fun _ => fin) (fun z2 => ?_)
        have a1 : 0 ≤ i := by simpa using z
        have a2 : i < ps.length := by simpa using z2
        omega
end
end K23

set_option Elab.async false
set_option linter.all false
set_option maxRecDepth 100000
set_option maxHeartbeats 4000000
namespace L2
open PySem PySem.Spec PyProof.Rows
/-- one sign as a text -/
abbrev one (c : Nat) : Str := ⟨#[c]⟩
theorem glue_ones : ∀ (cs : List Nat) (acc : Array Nat), ((cs.map one).foldl (fun acc p => acc ++ ("" : Str).cps ++ p.cps) acc).toList = acc.toList ++ cs
  | [], acc => by simp
  | c :: cs, acc => by
    have e : ("" : Str).cps = #[] := by decide +kernel
    rw [List.map_cons, List.foldl_cons, glue_ones cs, e]
    simp
theorem join_ones {cs : List Nat} (h : cs ≠ []) : (Txt.join "" (cs.map one)).cps.toList = cs := by
  cases cs with
  | nil => exact absurd rfl h
  | cons c r =>
    show ((r.map one).foldl (fun acc p => acc ++ ("" : Str).cps ++ p.cps) (one c).cps).toList = _
    rw [glue_ones]
    rfl
theorem atI_mem {α : Type} {xs : List α} {i : Int} {v : α} (h : atI xs i = some v) : v ∈ xs := by
  unfold atI at h
  obtain ⟨j, _, e⟩ := Option.bind_eq_some_iff.mp h
  exact List.mem_of_getElem? e
theorem pigeon : ∀ (l m : List Str), l.Nodup → (∀ x ∈ l, x ∈ m) → l.length ≤ m.length
  | [], m, _, _ => Nat.zero_le _
  | x :: l, m, nd, h => by
    rw [List.nodup_cons] at nd
    have hx := h x List.mem_cons_self
    have q := pigeon l (m.erase x) nd.2 fun y hy => (List.mem_erase_of_ne (fun e : y = x => nd.1 (e ▸ hy))).mpr (h y (List.mem_cons_of_mem _ hy))
    rw [List.length_erase_of_mem hx] at q
    have : 0 < m.length := List.length_pos_of_mem hx
    simp only [List.length_cons]
    omega
end L2
namespace K23
open PySem PySem.Spec PyProof.Rows L2
abbrev abc : Str := "abcdefghijklmnopqrstuvwxyz"
theorem abc_ok : ∀ c ∈ abc.cps.toList, (lo c && hi c) = true := by decide +kernel
theorem nm_of {z : Str} {cs : List Nat} (e : z.cps.toList = cs) (h1 : 1 ≤ cs.length) (h8 : cs.length ≤ 8) (h : ∀ c ∈ cs, (lo c && hi c) = true) : nm z = true := by
  have l : z.length = cs.length := by rw [← e]; exact Array.length_toList.symm
  unfold nm
  rw [l, decide_eq_true h1, decide_eq_true h8, e]
  simp only [Bool.and_self, Bool.true_and, List.all_map, List.all_eq_true]
  exact fun c hc => h c hc
section
variable {P : Program} {w : World} {K : PySem.W.Frag} {mg : Str → Option Value} {base : Heap}
end
end K23

set_option Elab.async false
set_option linter.all false
set_option maxRecDepth 100000
set_option maxHeartbeats 4000000
namespace K23
open PySem PySem.Spec PyProof.Rows L2
section
variable {P : Program} {w : World} {K : PySem.W.Frag} {mg : Str → Option Value} {base : Heap}
/-- the row at p written, the list at q laid since H -/
theorem Row.lst {H : Hp} {p : Addr} (h : Row H p) : ∃ xs, H p = some (.lst xs) := let ⟨a, b, e⟩ := h; ⟨_, e⟩
theorem Row.upd_ne {H : Hp} {p q : Addr} {o : HO} (h : Row H p) (n : p ≠ q) : Row (upd H q o) p := let ⟨a, b, e⟩ := h; ⟨a, b, by rw [L2.upd_ne n]; exact e⟩
theorem But.upd_new {p q : Addr} {H H1 : Hp} {o : HO} (a : But p H H1) (hq : H q = none) : But p H (upd H1 q o) := fun c u e n => by rw [L2.upd_ne (ne_of_none e hq)]; exact a c u e n
end
end K23

set_option Elab.async false
set_option linter.all false
set_option maxRecDepth 100000
set_option maxHeartbeats 4000000
namespace K23
open PySem PySem.Spec PyProof.Rows L2
abbrev sPot : Stmt := top 30 -- _law_pot
abbrev sTake : Stmt := top 31 -- _law_take
abbrev sWord : Stmt := top 32 -- _law_word
abbrev sNames : Stmt := top 33 -- _law_names
abbrev sLTie : Stmt := top 34 -- _law_tie
theorem low {A : Around} {k : Nat} (n : Nat) (hr : Room k A) (h : n ≤ 63 := by decide) : A.units + n + 1 < cLine := by have := hr.units; omega
theorem Same.upd_new {H H1 : Hp} {q : Addr} {o : HO} (s : Same H H1) (hq : H q = none) : Same H (upd H1 q o) := fun b u e => by rw [L2.upd_ne (ne_of_none e hq)]; exact s b u e
theorem Same.but {H H1 H2 : Hp} {p : Addr} (s : Same H H1) (b : But p H1 H2) (hp : H p = none) : Same H H2 := fun c u e => b c u (s c u e) (ne_of_none e hp)
/-- a cell that was free before is free of what was there -/
theorem But.none {p t : Addr} {H H' : Hp} (b : But p H H') (ht : H' t = none) (n : t ≠ p) : H t = none := by
  cases e : H t with
  | none => rfl
  | some o => exact absurd (b _ _ e n) (by rw [ht]; intro z; cases z)
section
variable {P : Program} {w : World} {K : PySem.W.Frag} {mg : Str → Option Value} {base : Heap}
def spPot : Sp := fun vs H Q _ => ∃ (a : Addr) (ns : List Int) (k : Nat), vs = [.ref a, .int k] ∧ SqL K H a (ns.map V.int) ∧ ns.length ≤ 63 ∧ ∀ (p : Addr) (H' : Hp), H p = none → Row H' p → Same H H' → Q (.ref p) H'
abbrev nPo : List Str := ["_law_script", "_law_k", "_law_cell"]
theorem scPo : FnScope nPo ["_law_script", "_law_k"] (defScope sPot) := ⟨rfl, rfl, rfl, by decide +kernel, rfl, by decide +kernel, by decide +kernel⟩
theorem row_end {H : Hp} {Q : VK} (k : ∀ (p : Addr) (H' : Hp), H p = none → Row H' p → Same H H' → Q (.ref p) H') (a b : Int) (p : Addr) (hp : H p = none) : Q (.ref p) (upd H p (.lst [.int a, .int b])) :=
  k p _ hp ⟨a, b, upd_same⟩ fun c o e => by rw [upd_ne (ne_of_none e hp)]; exact e
theorem ok_pot {f : Addr} {fd : FuncData} (F : Fun K "_law_pot" "_law_pot" sPot f fd) (T : Glb mg) (ab : mg "abs" = none) : FnOk P w K mg base CX0 1 f fd ["_law_script", "_law_k"] (spPot (K := K)) := by
  refine F.ok scPo (fun vs H Q E h => ?_) (fun cdv A outer s H vs Q E hr h => ?_)
  · obtain ⟨a, ns, k, rfl, _⟩ := h
    rfl
  · obtain ⟨a, ns, n, rfl, hS, hl, k⟩ := h
    refine ⟨_, pss_cons (ps_set (i := 2) scPo.nd rfl (Or.inl rfl) (pe_ifExp (pt_cmpR op_lt (pv 1) (pe_callB call_len_seq (by rfl) T.len PySem.boot_len (pa_cons (pv 0) pa_nil)) (nomark _)) (pe_ix ix_list (pv 0) (pv 1) (fun _ _ => rfl)) pe_int))
      (pss_one (ps_ret (pe_lst (pa_cons (pe_callB (call_max2 rfl) (by rfl) T.max PyProof.Rows.boot_max (pa_cons pe_int (pa_cons (pe_op op_sub (pe_callB call_abs (by rfl) ab PyProof.Rows.boot_abs (pa_cons (pv 2) pa_nil)) (pe_op op_pow pe_int pe_int)) pa_nil)))
        (pa_cons (pe_op op_mod (pe_op op_add (pe_op op_add (pe_op op_mul (pe_op op_mod (pe_callB call_abs (by rfl) ab PyProof.Rows.boot_abs (pa_cons (pv 2) pa_nil)) pe_int) pe_int) (pe_op op_mul pe_int (pv 1))) pe_int) pe_int) pa_nil))))), ?_⟩
    refine ⟨_, rfl, _, rfl, a, _, rfl, .inl hS, _, _, rfl, rfl, _, rfl, ?_⟩
    refine ite2 (fun hlt => ?_) (fun hlt => ?_)
    · have hlt' : n < ns.length := by simpa using hlt
      refine ⟨_, rfl, _, rfl, a, _, _, _, rfl, rfl, hS, atI_nat (j := n) (v := .int ns[n]) (by simp [hlt']), ?_⟩
      refine ⟨_, rfl, _, rfl, _, _, rfl, rfl, ⟨by decide, by decide, by decide⟩, _, _, rfl, rfl, _, _, rfl, ?_⟩
      refine ⟨_, rfl, _, rfl, _, _, rfl, rfl, (by show (0 : Int) < 2147483587; decide), _, _, rfl, rfl, .inr ⟨by decide, by decide⟩, _, rfl, _, _, rfl, rfl, .inl ⟨by decide, by decide⟩, _, _, rfl, rfl, _, _, rfl, rfl, _, _, rfl, rfl, (by show (0 : Int) < 2147483629; decide), ?_⟩
      exact ⟨(by show 2 ≤ sizeLine; decide), row_end k _ _⟩
    · refine ⟨_, rfl, _, rfl, _, _, rfl, rfl, ⟨by decide, by decide, by decide⟩, _, _, rfl, rfl, _, _, rfl, ?_⟩
      refine ⟨_, rfl, _, rfl, _, _, rfl, rfl, (by show (0 : Int) < 2147483587; decide), _, _, rfl, rfl, .inr ⟨by decide, by decide⟩, _, rfl, _, _, rfl, rfl, .inl ⟨by decide, by decide⟩, _, _, rfl, rfl, _, _, rfl, rfl, _, _, rfl, rfl, (by show (0 : Int) < 2147483629; decide), ?_⟩
      exact ⟨(by show 2 ≤ sizeLine; decide), row_end k _ _⟩
abbrev nTk : List Str := ["_law_pot_here", "_law_many", "_law_digit"]
theorem scTk : FnScope nTk ["_law_pot_here", "_law_many"] (defScope sTake) := ⟨rfl, rfl, rfl, by decide +kernel, rfl, by decide +kernel, by decide +kernel⟩
theorem ok_take {f : Addr} {fd : FuncData} (F : Fun K "_law_take" "_law_take" sTake f fd) (T : Glb mg) : FnOk P w K mg base CX0 1 f fd ["_law_pot_here", "_law_many"] spDraw := by
  refine F.ok scTk (fun vs H Q E h => ?_) (fun cdv A outer s H vs Q E hr h => ?_)
  · obtain ⟨p, m, rfl, _⟩ := h
    rfl
  · obtain ⟨p, m, rfl, ⟨a, b, hp⟩, m0, m1, k⟩ := h
    refine ⟨_, pss_cons (ps_if (pt_cmpR op_gt (pe_ix ix_list (pv 0) pe_int (fun _ _ => rfl)) pe_int (nomark _))
      (pss_cons (ps_asg (pe_callB call_divmod' (by rfl) T.divmod PyProof.Rows.boot_divmod (pa_cons (pe_ix ix_list (pv 0) pe_int (fun _ _ => rfl)) (pa_cons (pv 1) pa_nil)))
        (pg_tup rfl (pgs_cons (pg_sub (pv 0) pe_int set_list) (pgs_cons (pg_name (i := 2) scTk.nd rfl (Or.inl rfl)) pgs_nil)))) (pss_one (ps_ret (pv 2)))) pss_nil)
      (pss_cons (ps_asg (pe_op op_mod (pe_op op_add (pe_op op_mul (pe_ix ix_list (pv 0) pe_int (fun _ _ => rfl)) pe_int) pe_int) pe_int) (pg_sub (pv 0) pe_int set_list))
      (pss_one (ps_ret (pe_op op_mod (pe_op op_fdiv (pe_op op_mod (pe_op op_mul (pe_ix ix_list (pv 0) pe_int (fun _ _ => rfl)) (pe_ix ix_list (pv 0) pe_int (fun _ _ => rfl))) pe_int) pe_int) (pv 1))))), ?_⟩
    refine ⟨_, rfl, p, _, _, _, rfl, rfl, SqL.of hp, atI_nat (j := 0) rfl, ?_⟩
    refine ⟨_, _, rfl, rfl, _, rfl, ?_⟩
    refine ite2 (fun ha => ?_) (fun ha => ?_)
    · refine ⟨_, rfl, p, _, _, _, rfl, rfl, SqL.of hp, atI_nat (j := 0) rfl, _, rfl, a, m, rfl, m0, m1, fun t ht => ?_⟩
      have npt : p ≠ t := ne_of_none hp ht
      refine ⟨t, _, rfl, SqT.of upd_same, rfl, _, _, rfl, _, rfl, p, _, _, 0, rfl, rfl, (by rw [upd_ne npt]; exact hp), rfl, ?_⟩
      refine ⟨_, _, rfl, rfl, _, rfl, ?_⟩
      refine k _ _ (Int.emod_nonneg _ (by omega)) (Int.emod_lt_of_pos _ m0) ⟨_, _, upd_same⟩ fun c o e hc => ?_
      rw [upd_ne hc, upd_ne (ne_of_none e ht)]
      exact e
    · refine ⟨_, rfl, p, _, _, _, rfl, rfl, SqL.of hp, atI_nat (j := 1) rfl, _, _, rfl, rfl, .inr ⟨by decide, by decide⟩, _, _, rfl, rfl, _, _, rfl, rfl, (by show (0 : Int) < 2147483629; decide), ?_⟩
      refine ⟨_, rfl, p, _, _, 1, rfl, rfl, hp, rfl, ?_⟩
      have c1 : 0 ≤ (b * 40487 + 12289) % 2147483629 := Int.emod_nonneg _ (by decide)
      have c2 : (b * 40487 + 12289) % 2147483629 < 2147483629 := Int.emod_lt_of_pos _ (by decide)
      generalize (b * 40487 + 12289) % 2147483629 = c at c1 c2 ⊢
      refine ⟨_, rfl, p, _, _, _, rfl, rfl, SqL.of upd_same, atI_nat (j := 1) rfl, _, rfl, p, _, _, _, rfl, rfl, SqL.of upd_same, atI_nat (j := 1) rfl, _, _, rfl, rfl, .inl ⟨by omega, by omega⟩, _, _, rfl, rfl, (by show (0 : Int) < 2147483563; decide), _, _, rfl, rfl, ⟨by decide, by decide⟩, _, rfl, _, _, rfl, rfl, m0, ?_⟩
      refine k _ _ (Int.emod_nonneg _ (by omega)) (Int.emod_lt_of_pos _ m0) ⟨_, _, upd_same⟩ fun c o e hc => ?_
      rw [upd_ne hc]
      exact e
end
end K23

set_option Elab.async false
set_option linter.all false
set_option maxRecDepth 100000
set_option maxHeartbeats 4000000
namespace K23
open PySem PySem.Spec PyProof.Rows L2
section
variable {P : Program} {w : World} {K : PySem.W.Frag} {mg : Str → Option Value} {base : Heap}
/-! ### a word -/
def spWord : Sp := fun vs H Q _ => ∃ (p : Addr), vs = [.ref p] ∧ Row H p ∧ ∀ (z : Str) (H' : Hp), nm z = true → Row H' p → But p H H' → Q (.str z) H'
abbrev nWd : List Str := ["_law_pot_here", "_law_long"]
theorem scWd : FnScope nWd ["_law_pot_here"] (defScope sWord) := ⟨rfl, rfl, rfl, by decide +kernel, rfl, by decide +kernel, by decide +kernel⟩
theorem ok_word {f fD : Addr} {fd fdD : FuncData} (F : Fun K "_law_word" "_law_word" sWord f fd) (D : Df K mg "_law_take" sTake ["_law_pot_here", "_law_many"] fD fdD) (T : Glb mg) : FnOk P w K mg base CX0 2 f fd ["_law_pot_here"] spWord := by
  have G : FnOk P w K mg base CX0 1 fD fdD ["_law_pot_here", "_law_many"] spDraw := ok_take D.fn T
  refine F.ok scWd (fun vs H Q E h => ?_) (fun cdv A outer s H vs Q E hr h => ?_)
  · obtain ⟨p, rfl, _⟩ := h
    rfl
  · obtain ⟨p, rfl, hp, k⟩ := h
    refine ⟨_, pss_cons (ps_set (i := 1) scWd.nd rfl (Or.inl rfl) (pe_op op_add pe_int (pe_call G hr rfl D.mgf D.fn.kp D.b .nil pass0 (pa_cons (pv 0) (pa_cons
          (pe_ix ix_list (pe_lst (pa_cons pe_int (pa_cons pe_int (pa_cons pe_int pa_nil)))) (pe_call G hr rfl D.mgf D.fn.kp D.b .nil pass0 (pa_cons (pv 0) (pa_cons pe_int pa_nil))) (fun _ _ => rfl)) pa_nil)))))
      (pss_one (ps_ret (pe_bm PySem.F.plainAttrs_str PySem.F.slot_str_join PySem.F.type_str_join mt_join pe_str (pa_cons
        (pe_lc ["_law_k"] [0] rfl (compSc (osc := (defScope sWord).names) (N := nWd) rfl rfl (by decide +kernel)) (gk_name (by decide))
          (pi_range1 rfl T.range (pa_cons (pv 1) pa_nil))
          (fun _ _ _ => pg_name (i := 0) (show (["_law_k", "_law_pot_here"] : List Str).Nodup by decide +kernel) rfl (Or.inl rfl)) (fun _ _ _ => pifs_nil)
          (fun _ _ _ => pe_ix ix_str pe_str (pe_call G hr rfl D.mgf D.fn.kp D.b .nil pass0 (pa_cons (pv 1) (pa_cons pe_int pa_nil))) (fun _ _ => rfl))) pa_nil)))), ?_⟩
    refine ⟨_, rfl, (by show 3 ≤ sizeLine; decide), fun l0 hl0 => ?_⟩
    have npl : p ≠ l0 := ne_of_none hp.lst.choose_spec hl0
    have s0 := same_upd (o := .lst [.int 1, .int 2, .int 8]) hl0
    refine ⟨_, rfl, p, 3, rfl, hp.upd_ne npl, by decide, by decide, fun d0 H0 d0a d0b hp0 b0 => ?_⟩
    have b00 : But p H H0 := fun c o e n => b0 c o (s0 c o e) n
    have hl := b0 _ _ upd_same (Ne.symm npl)
    obtain ⟨m, em, m0, m8⟩ : ∃ m : Int, atI [V.int 1, V.int 2, V.int 8] d0 = some (.int m) ∧ 0 < m ∧ m ≤ 8 := by
      have : d0 = 0 ∨ d0 = 1 ∨ d0 = 2 := by omega
      rcases this with rfl | rfl | rfl
      · exact ⟨1, rfl, by decide, by decide⟩
      · exact ⟨2, rfl, by decide, by decide⟩
      · exact ⟨8, rfl, by decide, by decide⟩
    refine ⟨l0, _, _, _, rfl, rfl, SqL.of hl, em, p, m, rfl, hp0, m0, by omega, fun d1 H1 d1a d1b hp1 b1 => ?_⟩
    have b01 := b00.trans b1
    refine ⟨_, _, rfl, rfl, rfl, _, rfl, _, rfl, by omega, by omega, lc_range (fun i ys H2 => Row H2 p ∧ But p H H2 ∧ ∃ cs : List Nat, ys = (cs.map one).map V.str ∧ cs.length = i ∧ ∀ c ∈ cs, (lo c && hi c) = true) ⟨hp1, b01, [], rfl, rfl, fun _ h => nomatch h⟩ ?_ ?_ ?_⟩
    · rintro i ys H2 hi ⟨_, _, cs, rfl, hl, _⟩
      rw [List.length_map, List.length_map, hl]
      exact Nat.le_trans hi (Nat.le_trans (show (1 + d1).toNat ≤ 8 by omega) (by decide))
    · rintro i ys H2 R hi ⟨hp2, b2, cs, rfl, hl, h1⟩ kR
      simp only [tYes, gName, if_true]
      refine ⟨_, rfl, p, 26, rfl, hp2, by decide, by decide, fun d2 H3 d2a d2b hp3 b3 => ?_⟩
      obtain ⟨c, hc⟩ := lit_ix (z := abc) d2a (by rw [letters26]; exact d2b)
      refine ⟨_, _, c, rfl, rfl, by decide +kernel, hc, kR _ _ ⟨hp3, b2.trans b3, cs ++ [c], by simp, by simp [hl], fun y hy => ?_⟩⟩
      rcases List.mem_append.mp hy with q | q
      · exact h1 y q
      · rw [List.mem_singleton.mp q]; exact abc_ok c (atI_mem hc)
    · rintro ys H2 ⟨hp2, b2, cs, rfl, hl, h1⟩ D0 hD0
      obtain ⟨b3, hp3⟩ := b2.laid (o := .lst ((cs.map one).map V.str)) hD0 hp2
      have l1 : 1 ≤ cs.length := by rw [hl]; omega
      have l8 : cs.length ≤ 8 := by rw [hl]; omega
      have hsum : ((cs.map one).map (·.length)).sum + (cs.map one).length * ("" : Str).length ≤ 8 := by
        have e1 : ((cs.map one).map (·.length)).sum = cs.length := by
          rw [List.map_map]
          clear hl h1 l1 l8 b3 hp3
          induction cs with
          | nil => rfl
          | cons c r ih => rw [List.map_cons, List.sum_cons, ih]; show 1 + _ = _; simp; omega
        have : ("" : Str).length = 0 := by decide +kernel
        rw [e1, this]; omega
      have hn : nm (Txt.join "" (cs.map one)) = true := nm_of (join_ones (by intro e; rw [e] at l1; simp at l1)) l1 l8 h1
      refine ⟨"", D0, cs.map one, rfl, rfl, SqL.of upd_same, Nat.le_trans hsum (by decide), ?_⟩
      exact k _ _ hn hp3 b3
/-! ### names -/
def spNames : Sp := fun vs H Q _ => ∃ (p : Addr) (m : Int), vs = [.ref p, .int m] ∧ 0 < m ∧ m ≤ 12 ∧ Row H p ∧ ∀ (q : Addr) (ns : List Str) (H' : Hp), GoodP ns → H q = none → H' q = some (.lst (ns.map V.str)) → Row H' p → But p H H' → Q (.ref q) H'
abbrev nNa : List Str := ["_law_pot_here", "_law_most", "_law_found", "_law_k", "_law_word_here"]
theorem scNa : FnScope nNa ["_law_pot_here", "_law_most"] (defScope sNames) := ⟨rfl, rfl, rfl, by decide +kernel, rfl, by decide +kernel, by decide +kernel⟩
def NaI (p q : Addr) (m : Int) (H : Hp) (i : Nat) (σ : L2.St) (H2 : Hp) : Prop := ∃ (v3 v4 : Option V) (ns : List Str), σ = [some (V.ref p), some (V.int m), some (V.ref q), v3, v4] ∧ Row H2 p ∧ But p H H2 ∧ H2 q = some (.lst (ns.map V.str)) ∧ ns.length ≤ i ∧ (0 < i → 0 < ns.length) ∧ (∀ z ∈ ns, nm z = true) ∧ ns.Nodup
theorem ok_names {f fD fW : Addr} {fd fdD fdW : FuncData} (F : Fun K "_law_names" "_law_names" sNames f fd) (D : Df K mg "_law_take" sTake ["_law_pot_here", "_law_many"] fD fdD) (DW : Df K mg "_law_word" sWord ["_law_pot_here"] fW fdW) (T : Glb mg) : FnOk P w K mg base CX0 3 f fd ["_law_pot_here", "_law_most"] spNames := by
  have G : FnOk P w K mg base CX0 1 fD fdD ["_law_pot_here", "_law_many"] spDraw := ok_take D.fn T
  have GW : FnOk P w K mg base CX0 2 fW fdW ["_law_pot_here"] spWord := ok_word DW.fn D T
  refine F.ok scNa (fun vs H Q E h => ?_) (fun cdv A outer s H vs Q E hr h => ?_)
  · obtain ⟨p, m, rfl, _⟩ := h
    rfl
  · obtain ⟨p, m, rfl, m0, m12, hp, k⟩ := h
    have h1 := hr.mono (j := 1) (by decide)
    refine ⟨_, pss_cons (ps_set (i := 2) scNa.nd rfl (Or.inl rfl) (pe_lst pa_nil))
      (pss_cons (ps_for PassesOwn.never rfl (pi_range1 rfl T.range (pa_cons (pe_op op_add pe_int (pe_call G h1 rfl D.mgf D.fn.kp D.b .nil pass0 (pa_cons (pv 0) (pa_cons (pv 1) pa_nil)))) pa_nil)) (pg_name (i := 3) scNa.nd rfl (Or.inl rfl))
        (pss_cons (ps_set (i := 4) scNa.nd rfl (Or.inl rfl) (pe_call GW hr rfl DW.mgf DW.fn.kp DW.b .nil pass0 (pa_cons (pv 0) pa_nil)))
        (pss_one (ps_if (pt_cmpR op_notIn_seq (pv 4) (pv 2) rfl) (pss_one (ps_expr (pe_bm PySem.F.plainAttrs_list PySem.F.slot_list_append PySem.F.type_list_append mt_append (pv 2) (pa_cons (pv 4) pa_nil)))) pss_nil))))
      (pss_one (ps_ret (pv 2)))), ?_⟩
    refine ⟨(by decide), fun q hq => ?_⟩
    have npq : p ≠ q := ne_of_none hp.lst.choose_spec hq
    refine ⟨_, rfl, _, rfl, p, m, rfl, hp.upd_ne npq, m0, by omega, fun d1 H1 d1a d1b hp1 b1 => ?_⟩
    refine ⟨_, _, rfl, rfl, _, rfl, by omega, by omega, ?_⟩
    have b1' : But p H H1 := fun c o e n => b1 c o (by rw [L2.upd_ne (ne_of_none e hq)]; exact e) n
    refine for_range (NaI p q m H) ⟨_, _, [], rfl, hp1, b1', b1 _ _ upd_same (Ne.symm npq), Nat.le_refl _, (fun z => absurd z (by decide)), (fun _ z => nomatch z), List.nodup_nil⟩ ?_ ?_
    · rintro i σ H2 hi ⟨v3, v4, ns, rfl, hp2, b2, hq2, hl, hl0, hn, nd⟩
      refine ⟨_, rfl, p, rfl, hp2, fun z H3 hz hp3 b3 => ?_⟩
      have hq3 := b3 _ _ hq2 (Ne.symm npq)
      refine ⟨_, rfl, _, rfl, q, _, rfl, .inl (SqL.of hq3), rfl, flat_strs ns, _, rfl, ?_⟩
      simp only [if_true]
      rw [inV_str]
      by_cases hin : z ∈ ns
      · rw [decide_eq_true hin]
        exact iteF ⟨_, _, ns, rfl, hp3, b2.trans b3, hq3, Nat.le_succ_of_le hl, fun _ => List.length_pos_of_mem hin, hn, nd⟩
      · rw [decide_eq_false hin]
        refine iteT ⟨_, rfl, .inl ⟨rfl, _, SqL.of hq3⟩, _, rfl, q, _, _, rfl, rfl, hq3, (by rw [List.length_map]; exact small1000 (by omega)), ?_⟩
        refine ⟨_, _, ns ++ [z], rfl, hp3.upd_ne npq, (b2.trans b3).upd_new hq, ?_, by simp; omega, (fun _ => by simp), ?_, nd_snoc nd hin⟩
        · rw [upd_same]; simp
        · intro y hy
          rcases List.mem_append.mp hy with h | h
          · exact hn y h
          · rw [List.mem_singleton.mp h]; exact hz
    · rintro σ H2 ⟨v3, v4, ns, rfl, hp2, b2, hq2, hl, hl0, hn, nd⟩
      exact ⟨_, rfl, k q ns H2 ⟨hl0 (by omega), by omega, hn, nd⟩ hq hq2 hp2 b2⟩
/-! ### a tie -/
def spLTie : Sp := fun vs H Q _ => ∃ (p q : Addr) (m : Int) (ns : List Str), vs = [.ref p, .ref q, .int m] ∧ Row H p ∧ q ≠ p ∧ H q = some (.lst (ns.map V.str)) ∧ GoodP ns ∧
  ∀ (t : Addr) (x y : Str) (H' : Hp), x ∈ ns → y ∈ ns → H t = none → H' t = some (.tup [.str x, .str y]) → Row H' p → But p H H' → Q (.ref t) H'
abbrev nLt : List Str := ["_law_pot_here", "_law_names_here", "_law_sort", "_law_i", "_law_j"]
theorem scLt : FnScope nLt ["_law_pot_here", "_law_names_here", "_law_sort"] (defScope sLTie) := ⟨rfl, rfl, rfl, by decide +kernel, rfl, by decide +kernel, by decide +kernel⟩
theorem ok_ltie {f fD : Addr} {fd fdD : FuncData} (F : Fun K "_law_tie" "_law_tie" sLTie f fd) (D : Df K mg "_law_take" sTake ["_law_pot_here", "_law_many"] fD fdD) (T : Glb mg) : FnOk P w K mg base CX0 2 f fd ["_law_pot_here", "_law_names_here", "_law_sort"] spLTie := by
  have G : FnOk P w K mg base CX0 1 fD fdD ["_law_pot_here", "_law_many"] spDraw := ok_take D.fn T
  refine F.ok scLt (fun vs H Q E h => ?_) (fun cdv A outer s H vs Q E hr h => ?_)
  · obtain ⟨p, q, m, ns, rfl, _⟩ := h
    rfl
  · obtain ⟨p, q, m, ns, rfl, hp, nqp, hq, good, k⟩ := h
    refine ⟨_, pss_cons (ps_par rfl scLt.nd rfl rfl (i := 3) (j := 4) (by decide) rfl rfl (pa_cons (pe_call G hr rfl D.mgf D.fn.kp D.b .nil pass0 (pa_cons (pv 0) (pa_cons (pe_callB call_len_seq (by rfl) T.len PySem.boot_len (pa_cons (pv 1) pa_nil)) pa_nil)))
          (pa_cons (pe_call G hr rfl D.mgf D.fn.kp D.b .nil pass0 (pa_cons (pv 0) (pa_cons (pe_callB call_len_seq (by rfl) T.len PySem.boot_len (pa_cons (pv 1) pa_nil)) pa_nil))) pa_nil)) rfl)
      (pss_cons (ps_if (PW.pt (pw_or (pt_cmpR op_eq (pv 2) pe_int (nomark _)) (pw_or1 (PW.pt (pw_and (pt_cmpR op_eq (pv 2) pe_int (nomark _)) (pw_and1 (pt_cmpR op_gt (pe_call G hr rfl D.mgf D.fn.kp D.b .nil pass0 (pa_cons (pv 0) (pa_cons pe_int pa_nil))) pe_int (nomark _))))))))
          (pss_one (ps_par rfl scLt.nd rfl rfl (i := 3) (j := 4) (by decide) rfl rfl (pa_cons (pe_callB (call_min2 rfl) (by rfl) T.min PyProof.Rows.boot_min (pa_cons (pv 3) (pa_cons (pv 4) pa_nil))) (pa_cons (pe_callB (call_max2 rfl) (by rfl) T.max PyProof.Rows.boot_max (pa_cons (pv 3) (pa_cons (pv 4) pa_nil))) pa_nil)) rfl)) pss_nil)
      (pss_one (ps_ret (pe_tup (pa_cons (pe_ix ix_list (pv 1) (pv 3) (fun _ _ => rfl)) (pa_cons (pe_ix ix_list (pv 1) (pv 4) (fun _ _ => rfl)) pa_nil)))))), ?_⟩
    have hlen : ((ns.map V.str).length : Int) = ns.length := by rw [List.length_map]
    have lpos : (0 : Int) < ns.length := by have := good.one; omega
    have lbig : (ns.length : Int) < 2 ^ 64 := by have := good.few; omega
    refine ⟨_, rfl, _, rfl, q, _, rfl, .inl (SqL.of hq), p, _, rfl, hp, by rw [hlen]; exact lpos, by rw [hlen]; exact lbig, fun i H1 i1 i2 hp1 b1 => ?_⟩
    have hq1 := b1 _ _ hq nqp
    refine ⟨_, rfl, _, rfl, q, _, rfl, .inl (SqL.of hq1), p, _, rfl, hp1, by rw [hlen]; exact lpos, by rw [hlen]; exact lbig, fun j H2 j1 j2 hp2 b2 => ?_⟩
    rw [hlen] at i2 j2
    refine ⟨_, _, rfl, ?_⟩
    -- behind the test
    have fin : ∀ (x y : Int) (H8 : Hp), 0 ≤ x → x < ns.length → 0 ≤ y → y < ns.length → Row H8 p → But p H H8 →
        ∀ D0 : Ends, D0.rt = Q → tRet (tTup (tCons (tOp (rIxL K) (tVar 1) (tVar 3)) (tCons (tOp (rIxL K) (tVar 1) (tVar 4)) tNil))) D0 [some (V.ref p), some (V.ref q), some (V.int m), some (V.int x), some (V.int y)] H8 := by
      intro x y H8 x1 x2 y1 y2 hp8 b8 D0 hD
      obtain ⟨a, rfl⟩ := Int.eq_ofNat_of_zero_le x1
      obtain ⟨b, rfl⟩ := Int.eq_ofNat_of_zero_le y1
      have ha : a < ns.length := by omega
      have hb : b < ns.length := by omega
      have hq8 := b8 _ _ hq nqp
      refine ⟨_, rfl, _, rfl, q, _, _, _, rfl, rfl, SqL.of hq8, atI_nat (j := a) (v := .str ns[a]) (by simp [ha]), _, rfl, _, rfl, q, _, _, _, rfl, rfl, SqL.of hq8, atI_nat (j := b) (v := .str ns[b]) (by simp [hb]), (by show 2 ≤ sizeLine; decide), fun t ht => ?_⟩
      rw [hD]
      have npt : p ≠ t := ne_of_none hp8.lst.choose_spec ht
      have Ht : H t = none := b8.none ht (Ne.symm npt)
      exact k t _ _ _ (List.getElem_mem ha) (List.getElem_mem hb) Ht upd_same (hp8.upd_ne npt) (b8.upd_new Ht)
    have b02 := b1.trans b2
    have two : ∀ (H8 : Hp), Row H8 p → But p H H8 → ∀ D0 : Ends, D0.rt = Q → _ := fun H8 r8 b8 D0 hD => fin (if j < i then j else i) (if j > i then j else i) H8 (by split <;> omega) (by split <;> omega) (by split <;> omega) (by split <;> omega) r8 b8 D0 hD
    refine ⟨_, rfl, rfl, _, rfl, ?_⟩
    refine ite2 (fun _ => ?_) (fun _ => ?_)
    · exact ⟨_, rfl, _, rfl, _, _, rfl, _, rfl, _, rfl, _, _, rfl, _, _, rfl, two H2 hp2 b02 _ rfl⟩
    · refine ⟨_, rfl, rfl, _, rfl, ?_⟩
      refine ite2 (fun _ => ?_) (fun _ => ?_)
      · refine ⟨_, rfl, p, 9, rfl, hp2, by decide, by decide, fun d H3 _ _ hp3 b3 => ?_⟩
        refine ⟨_, _, rfl, rfl, _, rfl, ?_⟩
        refine ite2 (fun _ => ?_) (fun _ => ?_)
        · exact ⟨_, rfl, _, rfl, _, _, rfl, _, rfl, _, rfl, _, _, rfl, _, _, rfl, two H3 hp3 (b02.trans b3) _ rfl⟩
        · exact fin i j H3 i1 i2 j1 j2 hp3 (b02.trans b3) _ rfl
      · exact fin i j H2 i1 i2 j1 j2 hp2 b02 _ rfl
end
end K23

set_option Elab.async false
set_option linter.all false
set_option maxRecDepth 100000
set_option maxHeartbeats 4000000
namespace K23
open PySem PySem.Spec PyProof.Rows L2
section
variable {P : Program} {w : World} {K : PySem.W.Frag} {mg : Str → Option Value} {base : Heap}
/-! ### a web -/
def spWeb : Sp := fun vs H Q _ => ∃ (p : Addr), vs = [.ref p] ∧ Row H p ∧ ∀ (t a b : Addr) (ns : List Str) (ps : List (Str × Str)) (ts : List Addr) (H' : Hp), Lists H' a b ns ps ts → H' t = some (.tup [.ref a, .ref b]) → H a = none → H b = none → H t = none → a ≠ b → Row H' p → But p H H' → Q (.ref t) H'
abbrev nW : List Str := ["_law_pot_here", "_law_names_here", "_law_sort"]
theorem scWb : FnScope nW ["_law_pot_here"] (defScope sWeb) := ⟨rfl, rfl, rfl, by decide +kernel, rfl, by decide +kernel, by decide +kernel⟩
theorem ok_web {f fD fW fN fT : Addr} {fd fdD fdW fdN fdT : FuncData} (F : Fun K "_law_web" "_law_web" sWeb f fd) (D : Df K mg "_law_take" sTake ["_law_pot_here", "_law_many"] fD fdD) (DW : Df K mg "_law_word" sWord ["_law_pot_here"] fW fdW)
    (DN : Df K mg "_law_names" sNames ["_law_pot_here", "_law_most"] fN fdN) (DT : Df K mg "_law_tie" sLTie ["_law_pot_here", "_law_names_here", "_law_sort"] fT fdT) (T : Glb mg) : FnOk P w K mg base CX0 4 f fd ["_law_pot_here"] spWeb := by
  have G : FnOk P w K mg base CX0 1 fD fdD ["_law_pot_here", "_law_many"] spDraw := ok_take D.fn T
  have GN : FnOk P w K mg base CX0 3 fN fdN ["_law_pot_here", "_law_most"] spNames := ok_names DN.fn D DW T
  have GT : FnOk P w K mg base CX0 2 fT fdT ["_law_pot_here", "_law_names_here", "_law_sort"] spLTie := ok_ltie DT.fn D T
  refine F.ok scWb (fun vs H Q E h => ?_) (fun cdv A outer s H vs Q E hr h => ?_)
  · obtain ⟨p, rfl, _⟩ := h
    rfl
  · obtain ⟨p, rfl, hp, k⟩ := h
    have h1 := hr.mono (j := 1) (by decide)
    have h2 := hr.mono (j := 2) (by decide)
    refine ⟨_, pss_cons (ps_set (i := 1) scWb.nd rfl (Or.inr rfl) (pe_call GN hr rfl DN.mgf DN.fn.kp DN.b .nil pass0 (pa_cons (pv 0) (pa_cons (pe_ix ix_list (pe_lst (pa_cons pe_int (pa_cons pe_int (pa_cons pe_int (pa_cons pe_int pa_nil))))) (pe_call G h1 rfl D.mgf D.fn.kp D.b .nil pass0 (pa_cons (pv 0) (pa_cons pe_int pa_nil))) (fun _ _ => rfl)) pa_nil))))
      (pss_cons (ps_set (i := 2) scWb.nd rfl (Or.inr rfl) (pe_call G h1 rfl D.mgf D.fn.kp D.b .nil pass0 (pa_cons (pv 0) (pa_cons pe_int pa_nil))))
      (pss_one (ps_ret (pe_tup (pa_cons (pv 1) (pa_cons
        (pe_lc ["_law_k"] [0, 1, 2] rfl (compSc (osc := (defScope sWeb).names) (N := nW) rfl rfl (by decide +kernel)) (gk_name (by decide))
          (pi_range1 rfl T.range (pa_cons (pe_call G h1 rfl D.mgf D.fn.kp D.b .nil pass0 (pa_cons (pv 0) (pa_cons pe_int pa_nil))) pa_nil))
          (fun _ _ _ => pg_name (i := 0) (show (["_law_k", "_law_pot_here", "_law_names_here", "_law_sort"] : List Str).Nodup by decide +kernel) rfl (Or.inl rfl)) (fun _ _ _ => pifs_nil)
          (fun _ _ _ => pe_call GT h2 rfl DT.mgf DT.fn.kp DT.b .nil pass0 (pa_cons (pv 1) (pa_cons (pv 2) (pa_cons (pv 3) pa_nil))))) pa_nil)))))), ?_⟩
    refine ⟨_, rfl, (by show 4 ≤ sizeLine; decide), fun l0 hl0 => ?_⟩
    have npl : p ≠ l0 := ne_of_none hp.lst.choose_spec hl0
    have s0 := same_upd (o := .lst [.int 7, .int 7, .int 7, .int 12]) hl0
    refine ⟨_, rfl, p, 4, rfl, hp.upd_ne npl, by decide, by decide, fun d0 H0 d0a d0b hp0 b0 => ?_⟩
    have b00 : But p H H0 := fun c o e n => b0 c o (s0 c o e) n
    have hl := b0 _ _ upd_same (Ne.symm npl)
    obtain ⟨m, em, m0, m12⟩ : ∃ m : Int, atI [V.int 7, V.int 7, V.int 7, V.int 12] d0 = some (.int m) ∧ 0 < m ∧ m ≤ 12 := by
      have : d0 = 0 ∨ d0 = 1 ∨ d0 = 2 ∨ d0 = 3 := by omega
      rcases this with rfl | rfl | rfl | rfl
      · exact ⟨7, rfl, by decide, by decide⟩
      · exact ⟨7, rfl, by decide, by decide⟩
      · exact ⟨7, rfl, by decide, by decide⟩
      · exact ⟨12, rfl, by decide, by decide⟩
    refine ⟨l0, _, _, _, rfl, rfl, SqL.of hl, em, p, m, rfl, m0, m12, hp0, fun q ns H1 good hq0 hq1 hp1 b1' => ?_⟩
    have b1 := b00.trans b1'
    have hq : H q = none := b00.none hq0 (Ne.symm (ne_of_none hp0.lst.choose_spec hq0))
    have npq : p ≠ q := ne_of_none hp.lst.choose_spec hq
    refine ⟨_, rfl, p, 3, rfl, hp1, by decide, by decide, fun so H2 _ _ hp2 b2 => ?_⟩
    have hq2 := b2 _ _ hq1 (Ne.symm npq)
    have b02 := b1.trans b2
    refine ⟨_, rfl, _, rfl, p, 31, rfl, hp2, by decide, by decide, fun d H3 da db hp3 b3 => ?_⟩
    have hq3 := b3 _ _ hq2 (Ne.symm npq)
    have b03 := b02.trans b3
    refine ⟨_, rfl, by omega, by omega, lc_range (fun i ys H4 => Row H4 p ∧ But p H H4 ∧ H4 q = some (.lst (ns.map V.str)) ∧ ∃ (ts : List Addr) (ps : List (Str × Str)), ys = ts.map V.ref ∧ TiesAt H4 ts ps ∧ ps.length = i ∧ InP ns ps) ⟨hp3, b03, hq3, [], [], rfl, .nil, rfl, (fun _ z => nomatch z)⟩ ?_ ?_ ?_⟩
    · rintro i ys H4 hi ⟨_, _, _, ts, ps, rfl, hT, hl, _⟩
      rw [List.length_map, hT.len, hl]
      exact Nat.le_trans hi (Nat.le_trans (show d.toNat ≤ 30 by omega) (by decide))
    · rintro i ys H4 R hi ⟨hp4, b4, hq4, ts, ps, rfl, hT, hl, ins⟩ kR
      simp only [tYes, gName, if_true]
      refine ⟨_, rfl, _, rfl, _, rfl, p, q, so, ns, rfl, hp4, Ne.symm npq, hq4, good, fun t x y H5 hx hy ht ht5 hp5 b5 => ?_⟩
      have npt : p ≠ t := ne_of_none hp4.lst.choose_spec ht
      refine kR _ _ ⟨hp5, b4.trans b5, b5 _ _ hq4 (Ne.symm npq), ts ++ [t], ps ++ [(x, y)], by simp, TiesAt.snoc (hT.but b5 (fun ys z => by obtain ⟨xs, e⟩ := hp4.lst; rw [e] at z; cases z)) ht5, by simp [hl], fun z hz => ?_⟩
      rcases List.mem_append.mp hz with h | h
      · exact ins z h
      · rw [List.mem_singleton.mp h]; exact ⟨hx, hy⟩
    · rintro ys H4 ⟨hp4, b4, hq4, ts, ps, rfl, hT, hl, ins⟩ D0 hD0
      have npd : p ≠ D0 := ne_of_none hp4.lst.choose_spec hD0
      have HD : H D0 = none := b4.none hD0 (Ne.symm npd)
      have nqd : q ≠ D0 := ne_of_none hq4 hD0
      have few : ps.length ≤ 30 := by rw [hl]; omega
      have L5 : Lists (upd H4 D0 (.lst (ts.map V.ref))) q D0 ns ps ts := ⟨by rw [L2.upd_ne nqd]; exact hq4, upd_same, hT.same (same_upd hD0), good, ins, few⟩
      have hp5 := hp4.upd_ne (o := .lst (ts.map V.ref)) npd
      have b5 := b4.upd_new (o := .lst (ts.map V.ref)) HD
      generalize upd H4 D0 (.lst (ts.map V.ref)) = H5 at L5 hp5 b5 ⊢
      refine ⟨(by show 2 ≤ sizeLine; decide), fun t ht => ?_⟩
      have npt : p ≠ t := ne_of_none hp5.lst.choose_spec ht
      have Ht : H t = none := b5.none ht (Ne.symm npt)
      exact k t q D0 ns ps ts _ (L5.same (same_upd ht)) upd_same hq HD Ht nqd (hp5.upd_ne npt) (b5.upd_new Ht)
end
end K23

set_option Elab.async false
set_option linter.all false
set_option maxRecDepth 100000
set_option maxHeartbeats 4000000
namespace K23
open PySem PySem.Spec PyProof.Rows L2
abbrev sChkPl : Stmt := top 18 -- check_place
abbrev sLeads : Stmt := top 20 -- leads
abbrev sSpread : Stmt := top 22 -- spread
abbrev sReached : Stmt := top 23 -- reached
abbrev sFar : Stmt := top 42 -- _law_far
section
variable {P : Program} {w : World} {K : PySem.W.Frag} {mg : Str → Option Value} {base : Heap}
/-! ### leads -/
/-- at d stands the dict of lists of where ties lead from each place -/
structure StepsL (H : Hp) (d : Addr) (ns : List Str) (ps : List (Str × Str)) (ls : List Addr) : Prop where
  len : ls.length = ns.length
  nd : ls.Nodup
  hd : H d = some (.dK (tab ns ls))
  at_ : ∀ (i : Nat) z l, ns[i]? = some z → ls[i]? = some l → H l = some (.lst ((outs ps z).map V.str))
theorem StepsL.same {H H' : Hp} {d : Addr} {ns : List Str} {ps : List (Str × Str)} {ls : List Addr} (h : StepsL H d ns ps ls) (s : Same H H') : StepsL H' d ns ps ls := ⟨h.len, h.nd, s _ _ h.hd, fun i z l e1 e2 => s _ _ (h.at_ i z l e1 e2)⟩
theorem StepsL.get {H : Hp} {d : Addr} {ns : List Str} {ps : List (Str × Str)} {ls : List Addr} (h : StepsL H d ns ps ls) (nd : ns.Nodup) {z : Str} (hz : z ∈ ns) : ∃ (i : Nat) (l : Addr), ns[i]? = some z ∧ ls[i]? = some l ∧ valV (tab ns ls) (Sum.inr z : Key) = some (.ref l) ∧ H l = some (.lst ((outs ps z).map V.str)) := by
  obtain ⟨i, hi, e⟩ := List.getElem_of_mem hz
  have e1 : ns[i]? = some z := by rw [List.getElem?_eq_getElem hi, e]
  have hl : i < ls.length := by rw [h.len]; exact hi
  have e2 : ls[i]? = some ls[i] := List.getElem?_eq_getElem hl
  exact ⟨i, ls[i], e1, e2, tab_at nd e1 e2, h.at_ i z _ e1 e2⟩
def spLeads : Sp := fun vs H Q _ => ∃ (p t : Addr) (ns : List Str) (ts : List Addr) (ps : List (Str × Str)), vs = [.ref p, .ref t] ∧ H p = some (.lst (ns.map V.str)) ∧ H t = some (.lst (ts.map V.ref)) ∧ TiesAt H ts ps ∧ ns.Nodup ∧ ns.length ≤ 12 ∧ InP ns ps ∧ ps.length ≤ 1000 ∧
  ∀ (d : Addr) (ls : List Addr) (H' : Hp), StepsL H' d ns ps ls → Same H H' → Q (.ref d) H'
abbrev nLe : List Str := ["places", "ties", "steps", "a", "b"]
theorem scLe : FnScope nLe ["places", "ties"] (defScope sLeads) := ⟨rfl, rfl, rfl, by decide +kernel, rfl, by decide +kernel, by decide +kernel⟩
theorem ok_leads {f : Addr} {fd : FuncData} (F : Fun K "leads" "leads" sLeads f fd) (T : Glb mg) : FnOk P w K mg base CX0 1 f fd ["places", "ties"] spLeads := by
  refine F.ok scLe (fun vs H Q E h => ?_) (fun cdv A outer s H vs Q E hr h => ?_)
  · obtain ⟨p, t, ns, ts, ps, rfl, _⟩ := h
    rfl
  · obtain ⟨p, t, ns, ts, ps, rfl, hp, ht, hT, nd, few, hI, many, k⟩ := h
    have hu := hu_of hr
    refine ⟨_, pss_cons (ps_setD (i := 2) ["place"] [] scLe.nd rfl rfl rfl (compSc (osc := (defScope sLeads).names) (N := nLe) rfl rfl (by decide +kernel)) (gk_name (by decide)) (pi_list (pv 0))
          (fun _ _ _ => pg_name (i := 0) (show (["place"] : List Str).Nodup by decide +kernel) rfl (Or.inl rfl)) (fun _ _ _ => pifs_nil) (fun _ _ _ => pv 0) (fun _ _ _ => pe_lst pa_nil))
      (pss_cons (ps_for PassesOwn.never rfl (pi_list (pv 1)) (pg_tup rfl (pgs_cons (pg_name (i := 3) scLe.nd rfl (Or.inl rfl)) (pgs_cons (pg_name (i := 4) scLe.nd rfl (Or.inl rfl)) pgs_nil)))
        (pss_one (ps_expr (pe_bm PySem.F.plainAttrs_list PySem.F.slot_list_append PySem.F.type_list_append mt_append (pe_dget hu (pv 2) (pv 3) (fun _ _ => rfl)) (pa_cons (pv 4) pa_nil)))))
      (pss_one (ps_ret (pv 2)))), ?_⟩
    refine ⟨_, rfl, p, rfl, ⟨_, SqL.of hp⟩, dc_list (K := K) (xs := ns.map V.str) (fun i kvs H2 => Same H H2 ∧ ∃ ls : List Addr, ls.length = i ∧ ls.Nodup ∧ kvs = tab (ns.take i) ls ∧ ∀ l ∈ ls, H l = none ∧ H2 l = some (.lst [])) ⟨Same.refl _, [], rfl, List.nodup_nil, rfl, fun _ z => nomatch z⟩ ?_ ?_ ?_ ?_⟩
    · rintro i kvs H2 hi ⟨_, ls, e1, _, rfl, _⟩
      rw [List.length_map] at hi
      have lt : (ns.take i).length = i := by rw [List.length_take]; omega
      rw [tab_len (by rw [e1, lt]), lt]
      exact Nat.le_of_lt (small1000 (by omega))
    · rintro i kvs H2 _ ⟨s2, _⟩
      exact SqL.of (s2 _ _ hp)
    · rintro i x kvs H2 R hx ⟨s2, ls, e1, nl, rfl, all⟩ kR
      rw [List.getElem?_map] at hx
      obtain ⟨z, ez, rfl⟩ := Option.map_eq_some_iff.mp hx
      have hi : i < ns.length := (List.getElem?_eq_some_iff.mp ez).1
      have lt : (ns.take i).length = i := by rw [List.length_take]; omega
      simp only [tYes, gName, if_true]
      refine ⟨_, rfl, (by decide), fun l hl => ⟨Sum.inr z, rfl, kR _ _ ?_⟩⟩
      have nz : z ∉ ns.take i := fun m => by
        obtain ⟨j, hj, e⟩ := List.getElem_of_mem m
        have hj' : j < i := by rw [lt] at hj; exact hj
        have q : ns[j]? = some z := by
          rw [← e, List.getElem_take, List.getElem?_eq_getElem]
        have := nd_at nd q ez
        omega
      have nl' : l ∉ ls := fun m => by rw [(all l m).2] at hl; cases hl
      refine ⟨s2.trans (same_upd hl), ls ++ [l], by simp [e1], nd_snoc nl nl', ?_, fun y hy => ?_⟩
      · rw [List.take_add_one, ez, putK_new _ (tab_none nz)]
        exact (tab_snoc z l (by rw [e1, lt])).symm
      · rcases List.mem_append.mp hy with q | q
        · exact ⟨(all y q).1, by rw [upd_ne (ne_of_none (all y q).2 hl)]; exact (all y q).2⟩
        · rw [List.mem_singleton.mp q]; exact ⟨s2.free hl, upd_same⟩
    · rintro kvs H2 ⟨s2, ls, e1, nl, rfl, all⟩ d hd
      rw [List.length_map] at e1 ⊢
      rw [List.take_of_length_le (Nat.le_refl _)]
      have hS : StepsL (upd H2 d (.dK (tab ns ls))) d ns [] ls := ⟨e1, nl, upd_same, fun i z l _ el => by
        have := (all l (List.mem_of_getElem? el)).2
        rw [upd_ne (ne_of_none this hd)]; exact this⟩
      have s3 : Same H (upd H2 d (.dK (tab ns ls))) := s2.trans (same_upd hd)
      generalize upd H2 d (.dK (tab ns ls)) = H3 at hS s3 ⊢
      refine ⟨_, rfl, t, rfl, ⟨_, SqL.of (s3 _ _ ht)⟩, for_list (K := K) (xs := ts.map V.ref) (fun i σ H4 => ∃ v3 v4, σ = [some (V.ref p), some (V.ref t), some (V.ref d), v3, v4] ∧ Same H H4 ∧ StepsL H4 d ns (ps.take i) ls) ⟨_, _, rfl, s3, by rw [List.take_zero]; exact hS⟩ ?_ ?_ ?_⟩
      · rintro i σ H4 _ ⟨v3, v4, rfl, s4, _⟩
        exact SqL.of (s4 _ _ ht)
      · rintro i y σ H4 hy ⟨v3, v4, rfl, s4, S4⟩
        rw [List.getElem?_map] at hy
        obtain ⟨u, eu, rfl⟩ := Option.map_eq_some_iff.mp hy
        obtain ⟨pr, ep, hpr⟩ := hT.get eu
        obtain ⟨i1, i2⟩ := hI pr (List.mem_of_getElem? ep)
        refine ⟨u, _, rfl, SqT.of (s4 _ _ hpr), rfl, _, _, rfl, _, _, rfl, rfl, ?_⟩
        obtain ⟨j, l, j1, j2, j3, j4⟩ := S4.get nd i1
        refine ⟨_, rfl, _, rfl, d, _, rfl, (show DGet H4 d (.str pr.1) (some (.ref l)) from j3 ▸ DGet.k (k := Sum.inr pr.1) S4.hd), .inl ⟨rfl, _, SqL.of j4⟩, _, rfl, l, _, _, rfl, rfl, j4, ?_, ?_⟩
        · rw [List.length_map]
          refine small1000 (Nat.le_trans (outs_len _ _) (Nat.le_trans ?_ many))
          rw [List.length_take]; exact Nat.min_le_right _ _
        · have hl0 : H l = none := (all l (List.mem_of_getElem? j2)).1
          refine ⟨_, _, rfl, Same.upd_new s4 hl0, S4.len, S4.nd, ?_, fun i' z' l' e1' e2' => ?_⟩
          · rw [upd_ne (ne_of S4.hd j4 (by intro z; cases z))]; exact S4.hd
          · rw [List.take_add_one, ep]
            show _ = some (HO.lst ((outs (ps.take i ++ [pr]) z').map V.str))
            rw [outs_snoc]
            by_cases e : i' = j
            · subst e
              rw [j1] at e1'; rw [j2] at e2'
              cases e1'; cases e2'
              rw [upd_same, if_pos rfl]; simp
            · have nl' : l' ≠ l := fun q => e (nd_at nl (q ▸ e2') j2)
              have nz' : ¬ pr.1 = z' := fun q => e (nd_at nd (q ▸ e1') j1)
              rw [upd_ne nl', if_neg nz']
              exact S4.at_ i' z' l' e1' e2'
      · rintro σ H4 ⟨v3, v4, rfl, s4, S4⟩
        rw [List.length_map, hT.len, List.take_of_length_le (Nat.le_refl _)] at S4
        exact ⟨_, rfl, k d ls H4 S4 s4⟩
end
end K23

set_option Elab.async false
set_option linter.all false
set_option maxRecDepth 100000
set_option maxHeartbeats 4000000
namespace K23
open PySem PySem.Spec PyProof.Rows L2
/-- the state of a flood: seen, ahead -/
structure Fl (ns : List Str) (ps : List (Str × Str)) (a : Str) (zs hs : List Str) : Prop where
  nd : zs.Nodup
  sub : ∀ z ∈ zs, z ∈ ns
  rch : ∀ z ∈ zs, Rch ps a z
  hsub : ∀ z ∈ hs, z ∈ zs
  hnd : hs.Nodup
theorem Fl.more {ns : List Str} {ps : List (Str × Str)} {a b c : Str} {zs hs : List Str} (F : Fl ns ps a zs hs) (hi : InP ns ps) (hb : b ∈ zs) (t : (b, c) ∈ ps) (n : c ∉ zs) : Fl ns ps a (zs ++ [c]) (hs ++ [c]) where
  nd := nd_snoc F.nd n
  sub := fun z hz => (List.mem_append.mp hz).elim (F.sub z) fun e => by rw [List.mem_singleton.mp e]; exact (hi _ t).2
  rch := fun z hz => (List.mem_append.mp hz).elim (F.rch z) fun e => by rw [List.mem_singleton.mp e]; exact (F.rch b hb).on t
  hsub := fun z hz => (List.mem_append.mp hz).elim (fun h => List.mem_append_left _ (F.hsub z h)) fun e => List.mem_append_right _ e
  hnd := nd_snoc F.hnd fun m => n (F.hsub c m)
def kz (zs : List Str) : List (Key × V) := zs.map fun z => (Sum.inr z, V.bl true)
theorem kz_val (zs : List Str) (z : Str) : valV (kz zs) (Sum.inr z : Key) = if z ∈ zs then some (.bl true) else none := by
  induction zs with
  | nil => rfl
  | cons y r ih =>
    by_cases e : y = z
    · subst e
      rw [if_pos List.mem_cons_self]
      exact valV_pos rfl
    · show valV ((Sum.inr y, V.bl true) :: kz r) _ = _
      rw [valV_neg (fun q => e (Sum.inr.inj q)), ih]
      have : z ∈ y :: r ↔ z ∈ r := by
        rw [List.mem_cons]
        exact ⟨fun h => h.resolve_left fun q => e q.symm, Or.inr⟩
      by_cases h : z ∈ r
      · rw [if_pos h, if_pos (this.mpr h)]
      · rw [if_neg h, if_neg fun q => h (this.mp q)]
theorem kz_put {zs : List Str} {z : Str} (h : z ∉ zs) : putK (kz zs) (Sum.inr z : Key) (.bl true) = kz (zs ++ [z]) := by
  rw [putK_new _ (by rw [kz_val, if_neg h])]
  simp [kz]
theorem kz_txt (zs : List Str) : KTxt (kz zs) zs := by simp [KTxt, kz]
section
variable {P : Program} {w : World} {K : PySem.W.Frag} {mg : Str → Option Value} {base : Heap}
def spSpread : Sp := fun vs H Q _ => ∃ (d : Addr) (a : Str) (ns : List Str) (ps : List (Str × Str)) (ls : List Addr), vs = [.ref d, .str a] ∧ StepsL H d ns ps ls ∧ ns.Nodup ∧ ns.length ≤ 12 ∧ InP ns ps ∧ ps.length ≤ 1000 ∧ a ∈ ns ∧
  ∀ (l : Addr) (H' : Hp), H l = none → H' l = some (.lst ((rch ns ps a).map V.str)) → Same H H' → Q (.ref l) H'
abbrev nSp : List Str := ["steps", "start", "seen", "ahead", "place", "after"]
theorem scSp : FnScope nSp ["steps", "start"] (defScope sSpread) := ⟨rfl, rfl, rfl, by decide +kernel, rfl, by decide +kernel, by decide +kernel⟩
/-- between two turns of the flood -/
def SpW (d se ah : Addr) (a : Str) (ns : List Str) (ps : List (Str × Str)) (H : Hp) (m : Nat) (σ : L2.St) (H2 : Hp) : Prop :=
  ∃ (v4 v5 : Option V) (zs hs : List Str), σ = [some (.ref d), some (.str a), some (.ref se), some (.ref ah), v4, v5] ∧ Same H H2 ∧ H2 se = some (.dK (kz zs)) ∧ H2 ah = some (.lst (hs.map V.str)) ∧ Fl ns ps a zs hs ∧ a ∈ zs ∧
    (∀ z ∈ zs, z ∉ hs → ∀ b ∈ outs ps z, b ∈ zs) ∧ m = 2 * (ns.length - zs.length) + hs.length
theorem ok_spread {f : Addr} {fd : FuncData} (F : Fun K "spread" "spread" sSpread f fd) (T : Glb mg) : FnOk P w K mg base CX0 1 f fd ["steps", "start"] spSpread := by
  refine F.ok scSp (fun vs H Q E h => ?_) (fun cdv A outer s H vs Q E hr h => ?_)
  · obtain ⟨d, a, ns, ps, ls, rfl, _⟩ := h
    rfl
  · obtain ⟨d, a, ns, ps, ls, rfl, hS, nd, few, hI, many, ha, k⟩ := h
    have hu := hu_of hr
    refine ⟨_, pss_cons (ps_set (i := 2) scSp.nd rfl (Or.inl rfl) (pe_disp (pps_cons (pv 1) pe_bl pps_nil) rfl rfl (by intro z; cases z) (by decide)))
      (pss_cons (ps_set (i := 3) scSp.nd rfl (Or.inl rfl) (pe_lst (pa_cons (pv 1) pa_nil)))
      (pss_cons (ps_while PassesOwn.never (pt_truth (pv 3) (fun _ => rfl))
        (pss_cons (ps_set (i := 4) scSp.nd rfl (Or.inl rfl) (pe_bm0 PySem.F.plainAttrs_list PySem.F.slot_list_pop PySem.F.type_list_pop mt_pop (pv 3)))
        (pss_one (ps_for PassesOwn.never rfl (pi_list (pe_dget hu (pv 0) (pv 4) (fun _ _ => rfl))) (pg_name (i := 5) scSp.nd rfl (Or.inl rfl))
          (pss_one (ps_if (pt_cmp (pc_dnotin hu (pv 5) (pv 2)))
            (pss_cons (ps_dput hu (pv 2) (pv 5) pe_bl rfl)
            (pss_one (ps_expr (pe_bm PySem.F.plainAttrs_list PySem.F.slot_list_append PySem.F.type_list_append mt_append (pv 3) (pa_cons (pv 5) pa_nil))))) pss_nil))))))
      (pss_one (ps_ret (pe_callB (call_sorted_dk rfl) (by rfl) T.sorted PyProof.Rows.boot_sorted (pa_cons (pv 2) pa_nil)))))), ?_⟩
    intro se hse
    refine ⟨_, rfl, upd_same, [(Sum.inr a, V.bl true)], rfl, (by show 1 ≤ 15; decide), ?_⟩
    rw [upd_upd, show mergeK [] [((Sum.inr a : Key), V.bl true)] = kz [a] from rfl]
    have s1 := same_upd (o := .dK (kz [a])) hse
    have hse1 := upd_same (H := H) (a := se) (o := .dK (kz [a]))
    generalize upd H se (.dK (kz [a])) = H1 at s1 hse1 ⊢
    refine ⟨_, rfl, (by show 1 ≤ sizeLine; decide), fun ah hah => ?_⟩
    have hah0 : H ah = none := s1.free hah
    have nsa : se ≠ ah := ne_of_none hse1 hah
    refine ⟨SpW d se ah a ns ps H, ⟨_, _, _, [a], [a], rfl, s1.trans (same_upd hah), by rw [upd_ne nsa]; exact hse1, upd_same, ?_, List.mem_singleton.mpr rfl, fun z hz n => absurd hz n, rfl⟩, ?_⟩
    · exact ⟨by simp, fun z hz => by rw [List.mem_singleton.mp hz]; exact ha, fun z hz => by rw [List.mem_singleton.mp hz]; exact .here _, fun z hz => hz, by simp⟩
    rintro m σ H2 ⟨v4, v5, zs, hs, rfl, s2, hse2, hah2, FL, az, cl, rfl⟩
    refine ⟨_, rfl, _, .inl ⟨_, SqL.of hah2, rfl⟩, ?_⟩
    have S2 := hS.same s2
    have zle : zs.length ≤ ns.length := nd_le FL.nd FL.sub
    have hnodup : True := trivial
    refine ite2 (fun hne => ?_) (fun hem => ?_)
    · -- a turn
      have hpos : hs ≠ [] := fun e => by rw [e] at hne; simp at hne
      obtain ⟨hs0, pl, rfl⟩ : ∃ hs0 pl, hs = hs0 ++ [pl] := ⟨hs.dropLast, hs.getLast hpos, (List.dropLast_concat_getLast hpos).symm⟩
      refine ⟨fun σ' H' => ∃ m', m' < 2 * (ns.length - zs.length) + (hs0 ++ [pl]).length ∧ SpW d se ah a ns ps H m' σ' H', fun σ' H' h => h, ?_⟩
      refine ⟨_, rfl, .inl ⟨rfl, _, SqL.of hah2⟩, ah, _, .str pl, rfl, rfl, hah2, (by simp), ?_⟩
      have eh : ((hs0 ++ [pl]).map V.str).dropLast = hs0.map V.str := by simp
      rw [eh]
      have nah : se ≠ ah := ne_of hse2 hah2 (by intro z; cases z)
      have s3 : Same H (upd H2 ah (.lst (hs0.map V.str))) := Same.upd_new s2 hah0
      have hse3 : (upd H2 ah (.lst (hs0.map V.str))) se = some (.dK (kz zs)) := by rw [upd_ne nah]; exact hse2
      have hah3 := upd_same (H := H2) (a := ah) (o := .lst (hs0.map V.str))
      generalize upd H2 ah (.lst (hs0.map V.str)) = H3 at s3 hse3 hah3 ⊢
      have plz : pl ∈ zs := FL.hsub pl (by simp)
      have S3 := hS.same s3
      obtain ⟨j, l, j1, j2, j3, j4⟩ := S3.get nd (FL.sub pl plz)
      refine ⟨_, rfl, _, rfl, d, _, rfl, (show DGet H3 d (.str pl) (some (.ref l)) from j3 ▸ DGet.k (k := Sum.inr pl) S3.hd), l, rfl, ⟨_, SqL.of j4⟩, ?_⟩
      have hl0 := hS.at_ j pl l j1 j2
      refine for_list (K := K) (xs := (outs ps pl).map V.str) (fun i σ H4 => ∃ (v5 : Option V) (zs4 hs4 : List Str), σ = [some (.ref d), some (.str a), some (.ref se), some (.ref ah), some (.str pl), v5] ∧ Same H H4 ∧ H4 se = some (.dK (kz zs4)) ∧ H4 ah = some (.lst (hs4.map V.str)) ∧ Fl ns ps a zs4 hs4 ∧ (∀ z ∈ zs, z ∈ zs4) ∧
          (∀ z ∈ zs4, z ∉ hs4 → z ≠ pl → ∀ b ∈ outs ps z, b ∈ zs4) ∧ (∀ b ∈ (outs ps pl).take i, b ∈ zs4) ∧ 2 * (ns.length - zs4.length) + hs4.length < 2 * (ns.length - zs.length) + (hs0 ++ [pl]).length ∧ zs4.length ≤ ns.length)
        ⟨_, zs, hs0, rfl, s3, hse3, hah3, ⟨FL.nd, FL.sub, FL.rch, fun z hz => FL.hsub z (List.mem_append_left _ hz), (List.nodup_append.mp FL.hnd).1⟩, fun z hz => hz, ?_, fun b hb => by simp at hb, by simp, zle⟩ ?_ ?_ ?_
      · intro z hz n1 n2
        exact cl z hz fun q => (List.mem_append.mp q).elim n1 fun e => n2 (List.mem_singleton.mp e)
      · rintro i σ H4 _ ⟨v5, zs4, hs4, rfl, s4, _⟩
        exact SqL.of (s4 _ _ hl0)
      · rintro i y σ H4 hy ⟨v5, zs4, hs4, rfl, s4, hse4, hah4, F4, sub4, cl4, seen4, m4, le4⟩
        rw [List.getElem?_map] at hy
        obtain ⟨b, eb, rfl⟩ := Option.map_eq_some_iff.mp hy
        have hb : b ∈ outs ps pl := List.mem_of_getElem? eb
        have tb : (pl, b) ∈ ps := outs_mem.mp hb
        have ebt : (outs ps pl).take (i + 1) = (outs ps pl).take i ++ [b] := by rw [List.take_add_one, eb]; rfl
        refine ⟨_, rfl, _, rfl, se, _, rfl, DGet.k (k := Sum.inr b) hse4, _, rfl, ?_⟩
        rw [kz_val]
        by_cases hin : b ∈ zs4
        · rw [if_pos hin]
          refine iteF ⟨_, zs4, hs4, rfl, s4, hse4, hah4, F4, sub4, cl4, fun y hy => ?_, m4, le4⟩
          rw [ebt] at hy
          exact (List.mem_append.mp hy).elim (seen4 y) fun e => by rw [List.mem_singleton.mp e]; exact hin
        · rw [if_neg hin]
          have le5 : (zs4 ++ [b]).length ≤ ns.length := nd_le (F4.more hI (sub4 pl plz) tb hin).nd (F4.more hI (sub4 pl plz) tb hin).sub
          refine iteT ⟨_, rfl, _, rfl, se, _, rfl, DPut.k (k := Sum.inr b) hse4 (by simp only [kz, List.length_map]; exact small1000 (by omega)), ?_⟩
          rw [kz_put hin]
          have nsa4 : se ≠ ah := nah
          have hah5 : (upd H4 se (.dK (kz (zs4 ++ [b])))) ah = some (.lst (hs4.map V.str)) := by rw [upd_ne (Ne.symm nsa4)]; exact hah4
          have hl4 : hs4.length ≤ 1000 := by
            have := nd_le F4.hnd F4.hsub
            omega
          refine ⟨_, rfl, .inl ⟨rfl, _, SqL.of hah5⟩, _, rfl, ah, _, _, rfl, rfl, hah5, (by rw [List.length_map]; exact small1000 hl4), ?_⟩
          refine ⟨_, zs4 ++ [b], hs4 ++ [b], rfl, Same.upd_new (Same.upd_new s4 hse) hah0, by rw [upd_ne nsa4, upd_same], by rw [upd_same]; simp, F4.more hI (sub4 pl plz) tb hin, fun z hz => List.mem_append_left _ (sub4 z hz), fun z hz n1 n2 c hc => ?_, fun y hy => ?_, ?_, le5⟩
          · rcases List.mem_append.mp hz with q | q
            · exact List.mem_append_left _ (cl4 z q (fun e => n1 (List.mem_append_left _ e)) n2 c hc)
            · exact absurd (List.mem_append_right _ q) n1
          · rw [ebt] at hy
            exact (List.mem_append.mp hy).elim (fun q => List.mem_append_left _ (seen4 y q)) fun e => List.mem_append_right _ e
          · simp only [List.length_append, List.length_singleton] at m4 le5 ⊢
            omega
      · rintro σ H4 ⟨v5, zs4, hs4, rfl, s4, hse4, hah4, F4, sub4, cl4, seen4, m4, le4⟩
        rw [List.length_map, List.take_of_length_le (Nat.le_refl _)] at seen4
        refine ⟨_, m4, _, _, zs4, hs4, rfl, s4, hse4, hah4, F4, sub4 a az, fun z hz n b hb => ?_, rfl⟩
        by_cases e : z = pl
        · subst e; exact seen4 b hb
        · exact cl4 z hz n e b hb
    · -- the end
      have he : hs = [] := by
        cases hs with
        | nil => rfl
        | cons x r => simp at hem
      subst he
      have all : ∀ z, z ∈ zs ↔ Rch ps a z := fun z => ⟨FL.rch z, fun r => r.stays (S := (· ∈ zs)) az fun p hp h1 => cl p.1 h1 (by simp) p.2 (outs_mem.mpr hp)⟩
      refine ⟨_, rfl, se, _, zs, rfl, hse2, kz_txt zs, by omega, fun l hl => ?_⟩
      rw [rch_of nd FL.nd hI ha all]
      exact k l _ (s2.free hl) upd_same (s2.trans (same_upd hl))
end
end K23

set_option Elab.async false
set_option linter.all false
set_option maxRecDepth 100000
set_option maxHeartbeats 4000000
namespace K23
open PySem PySem.Spec PyProof.Rows L2
/-- the methods places and ties, as the class has them -/
structure Mt (K : PySem.W.Frag) (mg : Str → Option Value) (C fP fS : Addr) (fdP fdS : FuncData) : Prop where
  wc : WC K mg C
  pF : Fun K "places" "Web.places" sPlaces fP fdP
  pM : Meth K C "places" fP
  pB : Binds K fdP ["self"] []
  sF : Fun K "ties" "Web.ties" sTies fS fdS
  sM : Meth K C "ties" fS
  sB : Binds K fdS ["self"] []
theorem TyOf.same {K : PySem.W.Frag} {H H' : Hp} (s : Same H H') {y : V} {t : Value} (h : TyOf K H y t) : TyOf K H' y t := by
  cases h with
  | non => exact .non
  | bl x => exact .bl x
  | int i => exact .int i
  | str x => exact .str x
  | flt x => exact .flt x
  | lst e => exact .lst (s _ _ e)
  | frz e => exact .frz (s _ _ e)
  | tup e => exact .tup (s _ _ e)
  | dK e => exact .dK (s _ _ e)
  | dT e => exact .dT (s _ _ e)
  | ins e c d f g h => exact .ins (s _ _ e) c d f g h
theorem WebObj.meth {C x : Addr} {H : Hp} {ns : List Str} {ps : List (Str × Str)} (h : WebObj C H x ns ps) (m : Str) (e1 : (m == ("kept_places" : Str)) = false := by decide +kernel) (e2 : (m == ("kept_ties" : Str)) = false := by decide +kernel) : ∃ dx fs, H x = some (.ins C dx fs) ∧ fs.lookup m = none := by
  obtain ⟨dx, kp, kt, us, q, _⟩ := h
  exact ⟨dx, _, q, wf_no kp kt m e1 e2⟩
/-- what is no place -/
def NoPl (K : PySem.W.Frag) (H : Hp) (ns : List Str) (y : V) : Prop := (∃ z, y = .str z ∧ z ∉ ns) ∨ ∃ t, TyOf K H y t ∧ PySem.W.kitOne K t (.type "str") = some false
section
variable {P : Program} {w : World} {K : PySem.W.Frag} {mg : Str → Option Value} {base : Heap}
def spChkPl (C E2 : Addr) : Sp := fun vs H Q R => ∃ (x : Addr) (ns : List Str) (ps : List (Str × Str)) (y : V), vs = [.ref x, y] ∧ WebObj C H x ns ps ∧
  ((∃ z, y = .str z ∧ z ∈ ns ∧ ∀ H', Same H H' → Q .non H') ∨ (NoPl K H ns y ∧ ∀ H', Same H H' → R (.ref E2) none H'))
theorem scCk : FnScope ["web", "place"] ["web", "place"] (defScope sChkPl) := ⟨rfl, rfl, rfl, by decide +kernel, rfl, by decide +kernel, by decide +kernel⟩
theorem ok_chkPl {C E2 f fP fS fA : Addr} {fd fdP fdS fdA : FuncData} (F : Fun K "check_place" "check_place" sChkPl f fd) (M : Mt K mg C fP fS fdP fdS) (DA : Df K mg "is_among" sAmong ["places", "thing"] fA fdA) (X2 : Ex K mg "NoPlace" E2) (T : Glb mg) :
    FnOk P w K mg base (CXO P w) 2 f fd ["web", "place"] (spChkPl (K := K) C E2) := by
  have GA : FnOk P w K mg base CX0 1 fA fdA ["places", "thing"] (spAmong (K := K)) := ok_among DA.fn T
  have GP : FnOk P w K mg base CX0 1 fP fdP ["self"] (spPl C) := ok_places M.pF M.wc T
  refine F.okO scCk (fun vs H Q E h => ?_) (fun cdv A outer s H vs Q E hr h => ?_)
  · obtain ⟨x, ns, ps, y, rfl, _⟩ := h
    rfl
  · obtain ⟨x, ns, ps, y, rfl, hW, h⟩ := h
    obtain ⟨Bn, newId, initId, bm, q, FB⟩ := X2.bm
    refine ⟨_, pss_one (ps_if (pt_not (pt_val (pe_call GA hr rfl DA.mgf DA.fn.kp DA.b .nil pass0 (pa_cons (pe_meth0 (pv 0) M.wc.cl M.pM GP hr M.pB .nil pass0) (pa_cons (pv 1) pa_nil))) (fun _ => rfl))) (pss_one (ps_raise rfl X2.b q FB (pa_cons pe_str pa_nil))) pss_nil), ?_⟩
    obtain ⟨d1, f1, q1, r1⟩ := hW.meth "places"
    refine ⟨_, rfl, x, d1, f1, rfl, q1, r1, x, ns, ps, rfl, hW, fun l hl => ⟨_, rfl, ?_⟩⟩
    have sl := same_upd (o := .lst ((srt ns).map V.str)) hl
    rcases h with ⟨z, rfl, hz, k⟩ | ⟨no, k⟩
    · refine .inl ⟨l, srt ns, z, rfl, SqL.of upd_same, _, rfl, ?_⟩
      rw [decide_eq_true (srt_mem.mpr hz)]
      exact iteF (k _ sl)
    · rcases no with ⟨z, rfl, nz⟩ | ⟨t, ty, e⟩
      · refine .inl ⟨l, srt ns, z, rfl, SqL.of upd_same, _, rfl, ?_⟩
        rw [decide_eq_false fun h => nz (srt_mem.mp h)]
        exact iteT ⟨by decide, k _ sl⟩
      · refine .inr ⟨l, y, t, rfl, TyOf.same sl ty, e, _, rfl, ?_⟩
        exact iteT ⟨by decide, k _ sl⟩
/-! ### reached -/
structure GoodW (ns : List Str) (ps : List (Str × Str)) : Prop where
  good : GoodP ns
  ins : InP ns ps
  few : ps.length ≤ 30
theorem GoodW.inS {ns : List Str} {ps : List (Str × Str)} (g : GoodW ns ps) : InP (srt ns) ps := fun p hp => ⟨srt_mem.mpr (g.ins p hp).1, srt_mem.mpr (g.ins p hp).2⟩
def spReached (C E2 : Addr) : Sp := fun vs H Q R => ∃ (x : Addr) (ns : List Str) (ps : List (Str × Str)) (y : V), vs = [.ref x, y] ∧ WebObj C H x ns ps ∧ GoodW ns ps ∧
  ((∃ z, y = .str z ∧ z ∈ ns ∧ ∀ (l : Addr) (H' : Hp), H l = none → H' l = some (.lst ((rch ns ps z).map V.str)) → Same H H' → Q (.ref l) H') ∨ (NoPl K H ns y ∧ ∀ H', Same H H' → R (.ref E2) none H'))
theorem scRe : FnScope ["web", "place"] ["web", "place"] (defScope sReached) := ⟨rfl, rfl, rfl, by decide +kernel, rfl, by decide +kernel, by decide +kernel⟩
theorem ok_reached {C E2 f fP fS fA fC fL fSp : Addr} {fd fdP fdS fdA fdC fdL fdSp : FuncData} (F : Fun K "reached" "reached" sReached f fd) (M : Mt K mg C fP fS fdP fdS) (DA : Df K mg "is_among" sAmong ["places", "thing"] fA fdA) (DC : Df K mg "check_place" sChkPl ["web", "place"] fC fdC)
    (DL : Df K mg "leads" sLeads ["places", "ties"] fL fdL) (DS : Df K mg "spread" sSpread ["steps", "start"] fSp fdSp) (X2 : Ex K mg "NoPlace" E2) (T : Glb mg) :
    FnOk P w K mg base (CXO P w) 3 f fd ["web", "place"] (spReached (K := K) C E2) := by
  have GC : FnOk P w K mg base (CXO P w) 2 fC fdC ["web", "place"] (spChkPl (K := K) C E2) := ok_chkPl DC.fn M DA X2 T
  have GL : FnOk P w K mg base CX0 1 fL fdL ["places", "ties"] spLeads := ok_leads DL.fn T
  have GS : FnOk P w K mg base CX0 1 fSp fdSp ["steps", "start"] spSpread := ok_spread DS.fn T
  have GP : FnOk P w K mg base CX0 1 fP fdP ["self"] (spPl C) := ok_places M.pF M.wc T
  have GT : FnOk P w K mg base CX0 1 fS fdS ["self"] (spTs C) := ok_ties M.sF M.wc T
  refine F.okO scRe (fun vs H Q E h => ?_) (fun cdv A outer s H vs Q E hr h => ?_)
  · obtain ⟨x, ns, ps, y, rfl, _⟩ := h
    rfl
  · obtain ⟨x, ns, ps, y, rfl, hW, g, h⟩ := h
    have h1 := hr.mono (j := 1) (by decide)
    refine ⟨_, pss_cons (ps_expr (pe_call GC hr rfl DC.mgf DC.fn.kp DC.b .nil passO (pa_cons (pv 0) (pa_cons (pv 1) pa_nil))))
      (pss_one (ps_ret (pe_call GS h1 rfl DS.mgf DS.fn.kp DS.b .nil pass0 (pa_cons (pe_call GL h1 rfl DL.mgf DL.fn.kp DL.b .nil pass0 (pa_cons (pe_meth0 (pv 0) M.wc.cl M.pM GP h1 M.pB .nil pass0) (pa_cons (pe_meth0 (pv 0) M.wc.cl M.sM GT h1 M.sB .nil pass0) pa_nil))) (pa_cons (pv 1) pa_nil))))), ?_⟩
    refine ⟨_, rfl, _, rfl, x, ns, ps, y, rfl, hW, ?_⟩
    rcases h with ⟨z, rfl, hz, k⟩ | ⟨no, k⟩
    · refine .inl ⟨z, rfl, hz, fun H1 s1 => ?_⟩
      have W1 := hW.same s1
      obtain ⟨d1, f1, q1, r1⟩ := W1.meth "places"
      refine ⟨_, rfl, x, d1, f1, rfl, q1, r1, x, ns, ps, rfl, W1, fun l1 hl1 => ?_⟩
      have sl1 := same_upd (o := .lst ((srt ns).map V.str)) hl1
      have W2 := W1.same sl1
      obtain ⟨d2, f2, q2, r2⟩ := W2.meth "ties"
      refine ⟨_, rfl, x, d2, f2, rfl, q2, r2, x, ns, ps, rfl, W2, fun l2 us hl2 hU => ?_⟩
      have sl2 := same_upd (o := .lst (us.map V.ref)) hl2
      refine ⟨l1, l2, srt ns, us, ps, rfl, sl2 _ _ upd_same, upd_same, hU.same sl2, srt_nd g.good.nd, by rw [srt_len]; exact g.good.few, g.inS, Nat.le_trans g.few (by decide), fun d ls H3 S3 s3 => ?_⟩
      have s03 := s1.trans (sl1.trans (sl2.trans s3))
      refine ⟨_, rfl, d, z, srt ns, ps, ls, rfl, S3, srt_nd g.good.nd, by rw [srt_len]; exact g.good.few, g.inS, Nat.le_trans g.few (by decide), srt_mem.mpr hz, fun l H4 hl h4 s4 => ?_⟩
      rw [rch_srt g.good.nd] at h4
      exact k l H4 (s03.free hl) h4 (s03.trans s4)
    · exact .inr ⟨no, k⟩
end
end K23

set_option Elab.async false
set_option linter.all false
set_option maxRecDepth 100000
set_option maxHeartbeats 4000000
namespace K23
open PySem PySem.Spec PyProof.Rows L2
abbrev sTurned : Stmt := top 21 -- turned_pairs
abbrev sReachers : Stmt := top 24 -- reachers
abbrev sLeast : Stmt := top 26 -- least
abbrev sGreatest : Stmt := top 27 -- greatest
abbrev sLeastOf : Stmt := top 28 -- least_of
def turn (ps : List (Str × Str)) : List (Str × Str) := ps.map fun p => (p.2, p.1)
theorem turn_mem {ps : List (Str × Str)} {a b : Str} : (a, b) ∈ turn ps ↔ (b, a) ∈ ps := by
  unfold turn
  rw [List.mem_map]
  constructor
  · rintro ⟨p, hp, e⟩
    cases e
    exact hp
  · intro h
    exact ⟨_, h, rfl⟩
theorem turn_turn (ps : List (Str × Str)) : turn (turn ps) = ps := by
  unfold turn
  rw [List.map_map]
  exact List.map_id' _
theorem Rch.turned {ps : List (Str × Str)} {a b : Str} (h : Rch ps a b) : Rch (turn ps) b a := by
  induction h with
  | here => exact .here _
  | on h t ih => exact (Rch.one (turn_mem.mpr t)).trans ih
theorem rch_turn {ps : List (Str × Str)} {a b : Str} : Rch (turn ps) b a ↔ Rch ps a b := ⟨fun h => by have := Rch.turned h; rw [turn_turn] at this; exact this, Rch.turned⟩
theorem turn_in {ns : List Str} {ps : List (Str × Str)} (h : InP ns ps) : InP ns (turn ps) := fun p hp => by
  obtain ⟨q, hq, rfl⟩ := List.mem_map.mp hp
  exact ⟨(h q hq).2, (h q hq).1⟩
theorem turn_len (ps : List (Str × Str)) : (turn ps).length = ps.length := List.length_map ..
theorem GoodW.turned {ns : List Str} {ps : List (Str × Str)} (g : GoodW ns ps) : GoodW ns (turn ps) := ⟨g.good, turn_in g.ins, by rw [turn_len]; exact g.few⟩
/-- the defs that the cuts lean on -/
structure Rd (K : PySem.W.Frag) (mg : Str → Option Value) (C E1 E2 fP fS fT fW fA fC fL fSp fRe fTu fRs : Addr) (fdP fdS fdT fdW fdA fdC fdL fdSp fdRe fdTu fdRs : FuncData) : Prop where
  m : Mt K mg C fP fS fdP fdS
  tF : Fun K "tie" "Web.tie" sTieM fT fdT
  tM : Meth K C "tie" fT
  tB : Binds K fdT ["self", "k"] []
  wh : Df K mg "is_whole" sWhole ["thing"] fW fdW
  a : Df K mg "is_among" sAmong ["places", "thing"] fA fdA
  c : Df K mg "check_place" sChkPl ["web", "place"] fC fdC
  l : Df K mg "leads" sLeads ["places", "ties"] fL fdL
  s : Df K mg "spread" sSpread ["steps", "start"] fSp fdSp
  r : Df K mg "reached" sReached ["web", "place"] fRe fdRe
  t : Df K mg "turned_pairs" sTurned ["ties"] fTu fdTu
  rs : Df K mg "reachers" sReachers ["web", "place"] fRs fdRs
  x1 : Ex K mg "NoTie" E1
  x2 : Ex K mg "NoPlace" E2
section
variable {P : Program} {w : World} {K : PySem.W.Frag} {mg : Str → Option Value} {base : Heap}
def spTurned : Sp := fun vs H Q _ => ∃ (b : Addr) (ts : List Addr) (ps : List (Str × Str)), vs = [.ref b] ∧ H b = some (.lst (ts.map V.ref)) ∧ TiesAt H ts ps ∧ ps.length ≤ 1000 ∧
  ∀ (l : Addr) (us : List Addr) (H' : Hp), H l = none → H' l = some (.lst (us.map V.ref)) → TiesAt H' us (turn ps) → Same H H' → Q (.ref l) H'
theorem scTu : FnScope ["ties"] ["ties"] (defScope sTurned) := ⟨rfl, rfl, rfl, by decide +kernel, rfl, by decide +kernel, by decide +kernel⟩
/-- [(b, a) for a, b in ties] -/
theorem lc_turn {b : Addr} {ts : List Addr} {ps : List (Str × Str)} {H : Hp} {Q : VK} {σ : L2.St} {fr : List Nat} {o1 o2 : Str} (hb : H b = some (.lst (ts.map V.ref))) (hT : TiesAt H ts ps) (few : ps.length ≤ 1000)
    (k : ∀ (l : Addr) (us : List Addr) (H' : Hp), H l = none → H' l = some (.lst (us.map V.ref)) → TiesAt H' us (turn ps) → Same H H' → Q (.ref l) H') :
    lcLoop [o1, o2] fr (gTup K 2 (gCons (gName 0) (gCons (gName 1) gNil))) tYes (tTup (tCons (tVar 1) (tCons (tVar 0) tNil))) σ Q (Itl K b) H := by
  have le : (ts.map V.ref).length = ps.length := by rw [List.length_map, hT.len]
  refine lc_list (K := K) (xs := ts.map V.ref) (fun i ys H5 => Same H H5 ∧ ∃ us : List Addr, ys = us.map V.ref ∧ us.length = i ∧ TiesAt H5 us (turn (ps.take i))) ⟨Same.refl _, [], rfl, rfl, .nil⟩ ?_ ?_ ?_ ?_
  · rintro i ys H5 hi ⟨_, us, rfl, e, _⟩
    rw [List.length_map, e]
    rw [le] at hi
    exact Nat.le_trans hi (Nat.le_trans few (by decide))
  · rintro i ys H5 _ ⟨s5, _⟩
    exact SqL.of (s5 _ _ hb)
  · rintro i y ys H5 R hy ⟨s5, us, rfl, e, hU⟩ kR
    rw [List.getElem?_map] at hy
    obtain ⟨t, et, rfl⟩ := Option.map_eq_some_iff.mp hy
    obtain ⟨p, ep, ht⟩ := hT.get et
    refine ⟨t, _, rfl, SqT.of (s5 _ _ ht), rfl, _, _, rfl, _, _, rfl, rfl, ?_⟩
    simp only [tYes, if_true]
    refine ⟨_, rfl, _, rfl, (by show 2 ≤ sizeLine; decide), fun u hu => ?_⟩
    have e2 : us.map V.ref ++ [V.ref u] = (us ++ [u]).map V.ref := by simp
    refine kR _ _ ⟨s5.trans (same_upd hu), us ++ [u], e2, by simp [e], ?_⟩
    rw [List.take_add_one, ep]
    unfold turn
    rw [List.map_append]
    exact TiesAt.snoc (hU.same (same_upd hu)) upd_same
  · rintro ys H5 ⟨s5, us, rfl, e, hU⟩ D hD
    rw [le, List.take_length] at hU
    exact k D us _ (s5.free hD) upd_same (hU.same (same_upd hD)) (s5.trans (same_upd hD))
theorem ok_turned {f : Addr} {fd : FuncData} (F : Fun K "turned_pairs" "turned_pairs" sTurned f fd) (T : Glb mg) : FnOk P w K mg base CX0 1 f fd ["ties"] spTurned := by
  refine F.ok scTu (fun vs H Q E h => ?_) (fun cdv A outer s H vs Q E hr h => ?_)
  · obtain ⟨b, ts, ps, rfl, _⟩ := h
    rfl
  · obtain ⟨b, ts, ps, rfl, hb, hT, few, k⟩ := h
    refine ⟨_, pss_one (ps_ret (pe_lc ["a", "b"] [] rfl (compSc (osc := (defScope sTurned).names) (N := ["ties"]) rfl rfl (by decide +kernel)) (gk_two (k := 2) (by decide) (by decide)) (pi_list (pv 0))
        (fun _ _ _ => pg_tup (n := 2) rfl (pgs_cons (pg_name (i := 0) (show (["a", "b"] : List Str).Nodup by decide +kernel) rfl (Or.inl rfl)) (pgs_cons (pg_name (i := 1) (show (["a", "b"] : List Str).Nodup by decide +kernel) rfl (Or.inl rfl)) pgs_nil))) (fun _ _ _ => pifs_nil)
        (fun _ _ _ => pe_tup (pa_cons (pv 1) (pa_cons (pv 0) pa_nil))))), ?_⟩
    exact ⟨_, rfl, b, rfl, ⟨_, SqL.of hb⟩, lc_turn hb hT few k⟩
/-! ### reachers -/
def spReachers (C : Addr) : Sp := fun vs H Q _ => ∃ (x : Addr) (ns : List Str) (ps : List (Str × Str)) (z : Str), vs = [.ref x, .str z] ∧ WebObj C H x ns ps ∧ GoodW ns ps ∧ z ∈ ns ∧ ∀ (l : Addr) (H' : Hp), H l = none → H' l = some (.lst ((rch ns (turn ps) z).map V.str)) → Same H H' → Q (.ref l) H'
theorem scRs : FnScope ["web", "place"] ["web", "place"] (defScope sReachers) := ⟨rfl, rfl, rfl, by decide +kernel, rfl, by decide +kernel, by decide +kernel⟩
variable {C E1 E2 fP fS fT fW fA fC fL fSp fRe fTu fRs : Addr} {fdP fdS fdT fdW fdA fdC fdL fdSp fdRe fdTu fdRs : FuncData}
theorem ok_reachers {f : Addr} {fd : FuncData} (F : Fun K "reachers" "reachers" sReachers f fd) (D : Rd K mg C E1 E2 fP fS fT fW fA fC fL fSp fRe fTu fRs fdP fdS fdT fdW fdA fdC fdL fdSp fdRe fdTu fdRs) (T : Glb mg) :
    FnOk P w K mg base CX0 3 f fd ["web", "place"] (spReachers C) := by
  have GC : FnOk P w K mg base (CXO P w) 2 fC fdC ["web", "place"] (spChkPl (K := K) C E2) := ok_chkPl D.c.fn D.m D.a D.x2 T
  have GL : FnOk P w K mg base CX0 1 fL fdL ["places", "ties"] spLeads := ok_leads D.l.fn T
  have GS : FnOk P w K mg base CX0 1 fSp fdSp ["steps", "start"] spSpread := ok_spread D.s.fn T
  have GP : FnOk P w K mg base CX0 1 fP fdP ["self"] (spPl C) := ok_places D.m.pF D.m.wc T
  have GT : FnOk P w K mg base CX0 1 fS fdS ["self"] (spTs C) := ok_ties D.m.sF D.m.wc T
  have GU : FnOk P w K mg base CX0 1 fTu fdTu ["ties"] spTurned := ok_turned D.t.fn T
  refine F.ok scRs (fun vs H Q E h => ?_) (fun cdv A outer s H vs Q E hr h => ?_)
  · obtain ⟨x, ns, ps, z, rfl, _⟩ := h
    rfl
  · obtain ⟨x, ns, ps, z, rfl, hW, g, hz, k⟩ := h
    have h1 := hr.mono (j := 1) (by decide)
    refine ⟨_, pss_cons (ps_expr (pe_call GC hr rfl D.c.mgf D.c.fn.kp D.c.b .nil passN (pa_cons (pv 0) (pa_cons (pv 1) pa_nil))))
      (pss_one (ps_ret (pe_call GS h1 rfl D.s.mgf D.s.fn.kp D.s.b .nil pass0 (pa_cons (pe_call GL h1 rfl D.l.mgf D.l.fn.kp D.l.b .nil pass0 (pa_cons (pe_meth0 (pv 0) D.m.wc.cl D.m.pM GP h1 D.m.pB .nil pass0) (pa_cons (pe_call GU h1 rfl D.t.mgf D.t.fn.kp D.t.b .nil pass0 (pa_cons (pe_meth0 (pv 0) D.m.wc.cl D.m.sM GT h1 D.m.sB .nil pass0) pa_nil)) pa_nil))) (pa_cons (pv 1) pa_nil))))), ?_⟩
    refine ⟨_, rfl, _, rfl, x, ns, ps, _, rfl, hW, .inl ⟨z, rfl, hz, fun H1 s1 => ?_⟩⟩
    have W1 := hW.same s1
    obtain ⟨d1, f1, q1, r1⟩ := W1.meth "places"
    refine ⟨_, rfl, x, d1, f1, rfl, q1, r1, x, ns, ps, rfl, W1, fun l1 hl1 => ?_⟩
    have sl1 := same_upd (o := .lst ((srt ns).map V.str)) hl1
    have W2 := W1.same sl1
    obtain ⟨d2, f2, q2, r2⟩ := W2.meth "ties"
    refine ⟨_, rfl, x, d2, f2, rfl, q2, r2, x, ns, ps, rfl, W2, fun l2 us hl2 hU => ?_⟩
    have sl2 := same_upd (o := .lst (us.map V.ref)) hl2
    refine ⟨l2, us, ps, rfl, upd_same, hU.same sl2, Nat.le_trans g.few (by decide), fun l3 vs3 H3 hl3 h3 hV s3 => ?_⟩
    have g' := g.turned
    refine ⟨l1, l3, srt ns, vs3, turn ps, rfl, s3 _ _ (sl2 _ _ upd_same), h3, hV, srt_nd g.good.nd, by rw [srt_len]; exact g.good.few, g'.inS, Nat.le_trans g'.few (by decide), fun d ls H4 S4 s4 => ?_⟩
    have s04 := s1.trans (sl1.trans (sl2.trans (s3.trans s4)))
    refine ⟨_, rfl, d, z, srt ns, turn ps, ls, rfl, S4, srt_nd g.good.nd, by rw [srt_len]; exact g.good.few, g'.inS, Nat.le_trans g'.few (by decide), srt_mem.mpr hz, fun l H5 hl h5 s5 => ?_⟩
    rw [rch_srt g.good.nd] at h5
    exact k l H5 (s04.free hl) h5 (s04.trans s5)
/-! ### least, greatest -/
open Classical in
/-- the places that don't reach b -/
noncomputable def high (ns : List Str) (ps : List (Str × Str)) (b : Str) : List Str := (srt ns).filter fun z => decide (¬ Rch ps z b)
/-- None just where the one reaches the other, else the tuple -/
def Ans (ps : List (Str × Str)) (a b : Str) (zs : List Str) (v : V) (H : Hp) : Prop := (Rch ps a b ∧ v = .non) ∨ (¬ Rch ps a b ∧ ∃ t, v = .ref t ∧ H t = some (.tup (zs.map V.str)))
def spLeast (C : Addr) : Sp := fun vs H Q _ => ∃ (x : Addr) (ns : List Str) (ps : List (Str × Str)) (a b : Str), vs = [.ref x, .str a, .str b] ∧ WebObj C H x ns ps ∧ GoodW ns ps ∧ a ∈ ns ∧ b ∈ ns ∧ ∀ (v : V) (H' : Hp), Ans ps a b (rch ns ps a) v H' → Same H H' → Q v H'
def spGreatest (C : Addr) : Sp := fun vs H Q _ => ∃ (x : Addr) (ns : List Str) (ps : List (Str × Str)) (a b : Str), vs = [.ref x, .str a, .str b] ∧ WebObj C H x ns ps ∧ GoodW ns ps ∧ a ∈ ns ∧ b ∈ ns ∧ ∀ (v : V) (H' : Hp), Ans ps a b (high ns ps b) v H' → Same H H' → Q v H'
theorem scLs : FnScope ["web", "one", "other", "inside"] ["web", "one", "other"] (defScope sLeast) := ⟨rfl, rfl, rfl, by decide +kernel, rfl, by decide +kernel, by decide +kernel⟩
theorem ok_least {f : Addr} {fd : FuncData} (F : Fun K "least" "least" sLeast f fd) (D : Rd K mg C E1 E2 fP fS fT fW fA fC fL fSp fRe fTu fRs fdP fdS fdT fdW fdA fdC fdL fdSp fdRe fdTu fdRs) (T : Glb mg) :
    FnOk P w K mg base CX0 4 f fd ["web", "one", "other"] (spLeast C) := by
  have GC : FnOk P w K mg base (CXO P w) 2 fC fdC ["web", "place"] (spChkPl (K := K) C E2) := ok_chkPl D.c.fn D.m D.a D.x2 T
  have GR : FnOk P w K mg base (CXO P w) 3 fRe fdRe ["web", "place"] (spReached (K := K) C E2) := ok_reached D.r.fn D.m D.a D.c D.l D.s D.x2 T
  refine F.ok scLs (fun vs H Q E h => ?_) (fun cdv A outer s H vs Q E hr h => ?_)
  · obtain ⟨x, ns, ps, a, b, rfl, _⟩ := h
    rfl
  · obtain ⟨x, ns, ps, a, b, rfl, hW, g, ha, hb, k⟩ := h
    refine ⟨_, pss_cons (ps_expr (pe_call GC (hr.mono (by decide)) rfl D.c.mgf D.c.fn.kp D.c.b .nil passN (pa_cons (pv 0) (pa_cons (pv 2) pa_nil))))
      (pss_cons (ps_set (i := 3) scLs.nd rfl (Or.inl rfl) (pe_call GR hr rfl D.r.mgf D.r.fn.kp D.r.b .nil passN (pa_cons (pv 0) (pa_cons (pv 1) pa_nil))))
      (pss_one (ps_ret (pe_ifExp (pt_cmpR op_in_seq (pv 2) (pv 3) rfl) pe_non (pe_callTy call_tuple_of (by rfl) T.tuple PyProof.Rows.boot_tuple (pa_cons (pv 3) pa_nil)))))), ?_⟩
    refine ⟨_, rfl, _, rfl, x, ns, ps, _, rfl, hW, .inl ⟨b, rfl, hb, fun H1 s1 => ?_⟩⟩
    refine ⟨_, rfl, _, rfl, x, ns, ps, _, rfl, hW.same s1, g, .inl ⟨a, rfl, ha, fun l H2 hl h2 s2 => ?_⟩⟩
    refine ⟨_, rfl, _, rfl, l, _, rfl, .inl (SqL.of h2), rfl, flat_strs _, _, rfl, ?_⟩
    simp only [Bool.false_eq_true, if_false]
    rw [inV_str]
    have s02 := s1.trans s2
    refine ite2 (fun h => ?_) (fun h => ?_)
    · have h' : b ∈ rch ns ps a := by simpa using h
      exact k _ _ (.inl ⟨(rch_mem.mp h').2, rfl⟩) s02
    · have h' : b ∉ rch ns ps a := by simpa using h
      refine ⟨_, rfl, l, _, rfl, .inl ⟨SqL.of h2, fun t ht => ?_⟩⟩
      exact k _ _ (.inr ⟨fun r => h' (rch_mem.mpr ⟨hb, r⟩), t, rfl, upd_same⟩) (s02.trans (same_upd ht))
theorem scGr : FnScope ["web", "one", "other", "outside"] ["web", "one", "other"] (defScope sGreatest) := ⟨rfl, rfl, rfl, by decide +kernel, rfl, by decide +kernel, by decide +kernel⟩
theorem ok_greatest {f : Addr} {fd : FuncData} (F : Fun K "greatest" "greatest" sGreatest f fd) (D : Rd K mg C E1 E2 fP fS fT fW fA fC fL fSp fRe fTu fRs fdP fdS fdT fdW fdA fdC fdL fdSp fdRe fdTu fdRs) (T : Glb mg) :
    FnOk P w K mg base CX0 4 f fd ["web", "one", "other"] (spGreatest C) := by
  have GC : FnOk P w K mg base (CXO P w) 2 fC fdC ["web", "place"] (spChkPl (K := K) C E2) := ok_chkPl D.c.fn D.m D.a D.x2 T
  have GR : FnOk P w K mg base CX0 3 fRs fdRs ["web", "place"] (spReachers C) := ok_reachers D.rs.fn D T
  have GP : FnOk P w K mg base CX0 1 fP fdP ["self"] (spPl C) := ok_places D.m.pF D.m.wc T
  refine F.ok scGr (fun vs H Q E h => ?_) (fun cdv A outer s H vs Q E hr h => ?_)
  · obtain ⟨x, ns, ps, a, b, rfl, _⟩ := h
    rfl
  · obtain ⟨x, ns, ps, a, b, rfl, hW, g, ha, hb, k⟩ := h
    have h1 := hr.mono (j := 1) (by decide)
    refine ⟨_, pss_cons (ps_expr (pe_call GC (hr.mono (by decide)) rfl D.c.mgf D.c.fn.kp D.c.b .nil passN (pa_cons (pv 0) (pa_cons (pv 1) pa_nil))))
      (pss_cons (ps_set (i := 3) scGr.nd rfl (Or.inr rfl) (pe_call GR hr rfl D.rs.mgf D.rs.fn.kp D.rs.b .nil pass0 (pa_cons (pv 0) (pa_cons (pv 2) pa_nil))))
      (pss_cons (ps_if (pt_cmpR op_in_seq (pv 1) (pv 3) rfl) (pss_one (ps_ret pe_non)) pss_nil)
      (pss_one (ps_ret (pe_callTy call_tuple_of (by rfl) T.tuple PyProof.Rows.boot_tuple (pa_cons
        (pe_lc ["place"] [3] rfl (compSc (osc := (defScope sGreatest).names) (N := ["web", "one", "other", "outside"]) rfl rfl (by decide +kernel)) (gk_name (by decide)) (pi_list (pe_meth0 (pv 0) D.m.wc.cl D.m.pM GP h1 D.m.pB .nil pass0))
          (fun _ _ _ => pg_name (i := 0) (show (["place", "outside"] : List Str).Nodup by decide +kernel) rfl (Or.inl rfl)) (fun _ _ _ => pifs_one (pt_cmpR (r := rIn K true) op_notIn_seq (pv 0) (pv 1) rfl))
          (fun _ _ _ => pv 0)) pa_nil)))))), ?_⟩
    refine ⟨_, rfl, _, rfl, x, ns, ps, _, rfl, hW, .inl ⟨a, rfl, ha, fun H1 s1 => ?_⟩⟩
    refine ⟨_, rfl, _, rfl, x, ns, ps, b, rfl, hW.same s1, g, hb, fun l H2 hl h2 s2 => ?_⟩
    have s02 := s1.trans s2
    have inO : ∀ z, z ∈ ns → (z ∈ rch ns (turn ps) b ↔ Rch ps z b) := fun z hz => by rw [rch_mem, rch_turn]; exact ⟨fun q => q.2, fun q => ⟨hz, q⟩⟩
    refine ⟨_, rfl, _, rfl, l, _, rfl, .inl (SqL.of h2), rfl, flat_strs _, _, rfl, ?_⟩
    simp only [Bool.false_eq_true, if_false]
    rw [inV_str]
    refine ite2 (fun h => ?_) (fun h => ?_)
    · have h' : a ∈ rch ns (turn ps) b := by simpa using h
      exact k _ _ (.inl ⟨(inO a ha).mp h', rfl⟩) s02
    · have h' : a ∉ rch ns (turn ps) b := by simpa using h
      have W2 := hW.same s02
      obtain ⟨d1, f1, q1, r1⟩ := W2.meth "places"
      refine ⟨_, rfl, x, d1, f1, rfl, q1, r1, x, ns, ps, rfl, W2, fun l1 hl1 => ⟨l1, rfl, ⟨_, SqL.of upd_same⟩, ?_⟩⟩
      have sl1 := same_upd (o := .lst ((srt ns).map V.str)) hl1
      have k1 := upd_same (H := H2) (a := l1) (o := .lst ((srt ns).map V.str))
      have h3 := sl1 _ _ h2
      have s03 := s02.trans sl1
      generalize upd H2 l1 (.lst ((srt ns).map V.str)) = H3 at k1 h3 s03 ⊢
      clear sl1 hl1
      refine lc_list (K := K) (xs := (srt ns).map V.str) (fun i ys H5 => H5 = H3 ∧ ys = (((srt ns).take i).filter fun z => decide (z ∉ rch ns (turn ps) b)).map V.str) ⟨rfl, rfl⟩ ?_ ?_ ?_ ?_
      · rintro i ys H5 hi ⟨_, rfl⟩
        rw [List.length_map]
        refine Nat.le_trans (List.length_filter_le _ _) ?_
        rw [List.length_take, srt_len]
        exact Nat.le_trans (Nat.min_le_right _ _) (Nat.le_trans g.good.few (by decide))
      · rintro i ys H5 _ ⟨rfl, _⟩
        exact SqL.of k1
      · rintro i y ys H5 R hy ⟨rfl, rfl⟩ kR
        rw [List.getElem?_map] at hy
        obtain ⟨z, ez, rfl⟩ := Option.map_eq_some_iff.mp hy
        simp only [gName]
        refine ⟨_, rfl, _, rfl, l, _, rfl, .inl (SqL.of h3), rfl, flat_strs _, _, rfl, ?_⟩
        simp only [if_true]
        rw [inV_str]
        have ef : ((srt ns).take (i + 1)).filter (fun z => decide (z ∉ rch ns (turn ps) b)) = ((srt ns).take i).filter (fun z => decide (z ∉ rch ns (turn ps) b)) ++ (if z ∈ rch ns (turn ps) b then [] else [z]) := by
          rw [List.take_add_one, ez, List.filter_append]
          by_cases h : z ∈ rch ns (turn ps) b <;> simp [h]
        by_cases h : z ∈ rch ns (turn ps) b
        · rw [decide_eq_true h]
          refine iteF (kR _ _ ⟨rfl, ?_⟩)
          rw [ef, if_pos h, List.append_nil]
        · rw [decide_eq_false h]
          refine iteT ⟨_, rfl, kR _ _ ⟨rfl, ?_⟩⟩
          rw [ef, if_neg h]
          simp
      · rintro ys H5 ⟨rfl, rfl⟩ D1 hD1
        rw [List.length_map, List.take_length]
        have eh : (srt ns).filter (fun z => decide (z ∉ rch ns (turn ps) b)) = high ns ps b := by
          unfold high
          refine List.filter_congr fun z hz => ?_
          have := inO z (srt_mem.mp hz)
          by_cases q : Rch ps z b
          · simp [q, this.mpr q]
          · have q' : z ∉ rch ns (turn ps) b := fun h => q (this.mp h)
            simp [q, q']
        rw [eh]
        refine ⟨D1, _, rfl, .inl ⟨SqL.of upd_same, fun t ht => ?_⟩⟩
        exact k _ _ (.inr ⟨fun r => h' ((inO a ha).mpr r), t, rfl, upd_same⟩) (s03.trans ((same_upd hD1).trans (same_upd ht)))
/-! ### least_of -/
def spLeastOf (C : Addr) : Sp := fun vs H Q _ => ∃ (x : Addr) (ns : List Str) (ps : List (Str × Str)) (i : Nat) (p : Str × Str), vs = [.ref x, .int i] ∧ WebObj C H x ns ps ∧ GoodW ns ps ∧ ps[i]? = some p ∧ ∀ (v : V) (H' : Hp), Ans ps p.2 p.1 (rch ns ps p.2) v H' → Same H H' → Q v H'
theorem scLo : FnScope ["web", "k", "a", "b"] ["web", "k"] (defScope sLeastOf) := ⟨rfl, rfl, rfl, by decide +kernel, rfl, by decide +kernel, by decide +kernel⟩
theorem ok_leastOf {f fLe : Addr} {fd fdLe : FuncData} (F : Fun K "least_of" "least_of" sLeastOf f fd) (D : Rd K mg C E1 E2 fP fS fT fW fA fC fL fSp fRe fTu fRs fdP fdS fdT fdW fdA fdC fdL fdSp fdRe fdTu fdRs) (DL : Df K mg "least" sLeast ["web", "one", "other"] fLe fdLe) (T : Glb mg) :
    FnOk P w K mg base CX0 5 f fd ["web", "k"] (spLeastOf C) := by
  have GT : FnOk P w K mg base (CXO P w) 2 fT fdT ["self", "k"] (spTieM (K := K) C E1) := ok_tieM D.tF D.m.wc D.wh D.x1 T
  have GL : FnOk P w K mg base CX0 4 fLe fdLe ["web", "one", "other"] (spLeast C) := ok_least DL.fn D T
  refine F.ok scLo (fun vs H Q E h => ?_) (fun cdv A outer s H vs Q E hr h => ?_)
  · obtain ⟨x, ns, ps, i, p, rfl, _⟩ := h
    rfl
  · obtain ⟨x, ns, ps, i, p, rfl, hW, g, ep, k⟩ := h
    refine ⟨_, pss_cons (ps_asg (pe_meth (pv 0) D.m.wc.cl D.tM GT (hr.mono (by decide)) D.tB .nil passN (pa_cons (pv 1) pa_nil)) (pg_tup rfl (pgs_cons (pg_name (i := 2) scLo.nd rfl (Or.inl rfl)) (pgs_cons (pg_name (i := 3) scLo.nd rfl (Or.inl rfl)) pgs_nil))))
      (pss_one (ps_ret (pe_call GL hr rfl DL.mgf DL.fn.kp DL.b .nil pass0 (pa_cons (pv 0) (pa_cons (pv 3) (pa_cons (pv 2) pa_nil)))))), ?_⟩
    obtain ⟨d1, f1, q1, r1⟩ := hW.meth "tie"
    refine ⟨_, rfl, x, d1, f1, rfl, q1, r1, _, rfl, x, ns, ps, _, rfl, hW, .inl ⟨i, p, rfl, ep, fun t ht => ?_⟩⟩
    refine ⟨t, _, rfl, SqT.of ht, rfl, _, _, rfl, _, _, rfl, rfl, ?_⟩
    have := g.ins p (List.mem_of_getElem? ep)
    exact ⟨_, rfl, _, rfl, _, rfl, x, ns, ps, p.2, p.1, rfl, hW, g, this.2, this.1, k⟩
end
end K23

set_option Elab.async false
set_option linter.all false
set_option maxRecDepth 100000
set_option maxHeartbeats 4000000
namespace K23
open PySem PySem.Spec PyProof.Rows L2
abbrev sIs : Stmt := top 39 -- _law_is
section
variable {P : Program} {w : World} {K : PySem.W.Frag} {mg : Str → Option Value} {base : Heap}
/-! ### _law_is -/
def spIs : Sp := fun vs H Q _ => ∃ (v d : V), vs = [v, d] ∧ ((v = .non ∧ d = .non) ∨ ∃ (t u : Addr) (zs : List Str), v = .ref t ∧ d = .ref u ∧ H t = some (.tup (zs.map V.str)) ∧ H u = some (.tup (zs.map V.str))) ∧ Q (.bl true) H
theorem scIs : FnScope ["_law_found", "_law_due"] ["_law_found", "_law_due"] (defScope sIs) := ⟨rfl, rfl, rfl, by decide +kernel, rfl, by decide +kernel, by decide +kernel⟩
theorem ok_is {f : Addr} {fd : FuncData} (F : Fun K "_law_is" "_law_is" sIs f fd) (T : Glb mg) : FnOk P w K mg base CX0 1 f fd ["_law_found", "_law_due"] spIs := by
  refine F.ok scIs (fun vs H Q E h => ?_) (fun cdv A outer s H vs Q E hr h => ?_)
  · obtain ⟨v, d, rfl, _⟩ := h
    rfl
  · obtain ⟨v, d, rfl, h, k⟩ := h
    refine ⟨_, pss_cons (ps_if (pt_cmpR op_isN (pv 1) pe_non (nomark _)) (pss_one (ps_ret (pe_cmpR op_isN (pv 0) pe_non (nomark _)))) pss_nil)
      (pss_one (ps_ret (pe_and (pe_callB (call_isinst (T := "tuple")) (by rfl) T.isinst PyProof.Rows.boot_isinstance (pa_cons (pv 0) (pa_cons (pe_bltn (v := .ty "tuple") rfl T.tuple PyProof.Rows.boot_tuple rfl) pa_nil)))
        (pe_one (pe_cmpR (op_eq_flat (low 0 hr)) (pv 0) (pv 1) (nomark _)))))), ?_⟩
    rcases h with ⟨rfl, rfl⟩ | ⟨t, u, zs, rfl, rfl, ht, hu⟩
    · refine ⟨_, rfl, rfl, _, rfl, ?_⟩
      rw [decide_eq_true (rfl : V.non = V.non)]
      refine iteT ⟨_, rfl, rfl, ?_⟩
      rw [decide_eq_true (rfl : V.non = V.non)]
      exact k
    · refine ⟨_, rfl, rfl, _, rfl, ?_⟩
      rw [decide_eq_false (show ¬ (V.ref u = V.non) from fun z => by cases z)]
      refine iteF ⟨_, rfl, _, _, true, rfl, .tup ht, rfl, _, rfl, ?_⟩
      refine iteT ⟨_, rfl, _, rfl, t, u, _, _, rfl, rfl, .inr ⟨SqT.of ht, SqT.of hu⟩, flat_strs _, flat_strs _, ?_⟩
      rw [eqVs_str, decide_eq_true rfl]
      exact k
/-! ### _law_far: twelve rounds -/
def spFar : Sp := fun vs H Q _ => ∃ (b : Addr) (a : Str) (ns : List Str) (ts : List Addr) (ps : List (Str × Str)), vs = [.ref b, .str a] ∧ H b = some (.lst (ts.map V.ref)) ∧ TiesAt H ts ps ∧ GoodW ns ps ∧ a ∈ ns ∧
  ∀ (l : Addr) (zs : List Str) (H' : Hp), H l = none → H' l = some (.lst (zs.map V.str)) → zs.Nodup → (∀ z, z ∈ zs ↔ Rch ps a z) → Same H H' → Q (.ref l) H'
abbrev nFa : List Str := ["_law_ties", "_law_one", "_law_found", "_law_turn", "_law_a", "_law_b"]
theorem scFa : FnScope nFa ["_law_ties", "_law_one"] (defScope sFar) := ⟨rfl, rfl, rfl, by decide +kernel, rfl, by decide +kernel, by decide +kernel⟩
/-- what was found so far -/
structure Fa (ns : List Str) (ps : List (Str × Str)) (a : Str) (zs : List Str) : Prop where
  nd : zs.Nodup
  here : a ∈ zs
  r : ∀ z ∈ zs, Rch ps a z
theorem Fa.len {ns : List Str} {ps : List (Str × Str)} {a : Str} {zs : List Str} (F : Fa ns ps a zs) (g : GoodW ns ps) (ha : a ∈ ns) : zs.length ≤ 12 :=
  Nat.le_trans (pigeon zs ns F.nd fun z hz => (F.r z hz).isin g.ins ha) g.good.few
def Closed (ps : List (Str × Str)) (zs : List Str) : Prop := ∀ p ∈ ps, p.1 ∈ zs → p.2 ∈ zs
theorem Fa.all {ns : List Str} {ps : List (Str × Str)} {a : Str} {zs : List Str} (F : Fa ns ps a zs) (c : Closed ps zs) (z : Str) : z ∈ zs ↔ Rch ps a z := ⟨F.r z, fun h => h.stays (S := fun z => z ∈ zs) F.here c⟩
theorem ok_far {f : Addr} {fd : FuncData} (F : Fun K "_law_far" "_law_far" sFar f fd) (T : Glb mg) : FnOk P w K mg base CX0 1 f fd ["_law_ties", "_law_one"] spFar := by
  refine F.ok scFa (fun vs H Q E h => ?_) (fun cdv A outer s H vs Q E hr h => ?_)
  · obtain ⟨b, a, ns, ts, ps, rfl, _⟩ := h
    rfl
  · obtain ⟨b, a, ns, ts, ps, rfl, hb, hT, g, ha, k⟩ := h
    refine ⟨_, pss_cons (ps_set (i := 2) scFa.nd rfl (Or.inl rfl) (pe_lst (pa_cons (pv 1) pa_nil)))
      (pss_cons (ps_for PassesOwn.never rfl (pi_range1 rfl T.range (pa_cons pe_int pa_nil)) (pg_name (i := 3) scFa.nd rfl (Or.inl rfl))
        (pss_one (ps_for PassesOwn.never rfl (pi_list (pv 0)) (pg_tup rfl (pgs_cons (pg_name (i := 4) scFa.nd rfl (Or.inl rfl)) (pgs_cons (pg_name (i := 5) scFa.nd rfl (Or.inl rfl)) pgs_nil)))
          (pss_one (ps_if (PW.pt (pw_and (pt_cmpR op_in_seq (pv 4) (pv 2) rfl) (pw_and1 (pt_cmpR op_notIn_seq (pv 5) (pv 2) rfl)))) (pss_one (ps_expr (pe_bm PySem.F.plainAttrs_list PySem.F.slot_list_append PySem.F.type_list_append mt_append (pv 2) (pa_cons (pv 5) pa_nil)))) pss_nil)))))
      (pss_one (ps_ret (pv 2)))), ?_⟩
    refine ⟨_, rfl, (by show 1 ≤ sizeLine; decide), fun fo hfo => ?_⟩
    have s0 := same_upd (o := .lst [.str a]) hfo
    refine ⟨_, rfl, by decide, by decide, ?_⟩
    have lts : (ts.map V.ref).length = ps.length := by rw [List.length_map, hT.len]
    refine for_range (fun i σ H2 => ∃ (v3 v4 v5 : Option V) (zs : List Str), σ = [some (.ref b), some (.str a), some (.ref fo), v3, v4, v5] ∧ Same H H2 ∧ H2 fo = some (.lst (zs.map V.str)) ∧ Fa ns ps a zs ∧ (Closed ps zs ∨ i + 1 ≤ zs.length))
      ⟨_, _, _, [a], rfl, s0, upd_same, ⟨by simp, List.mem_singleton.mpr rfl, fun z hz => by rw [List.mem_singleton.mp hz]; exact .here _⟩, .inr (by simp)⟩ ?_ ?_
    · rintro i σ H2 hi ⟨v3, v4, v5, zs, rfl, s2, h2, fa, cl⟩
      refine ⟨_, rfl, b, rfl, ⟨_, SqL.of (s2 _ _ hb)⟩, ?_⟩
      refine for_list (K := K) (xs := ts.map V.ref) (fun j σ H3 => ∃ (v3 v4 v5 : Option V) (ys : List Str), σ = [some (.ref b), some (.str a), some (.ref fo), v3, v4, v5] ∧ Same H H3 ∧ H3 fo = some (.lst (ys.map V.str)) ∧ Fa ns ps a ys ∧ (∀ z ∈ zs, z ∈ ys) ∧ (ys = zs ∨ zs.length < ys.length) ∧ (∀ p ∈ ps.take j, p.1 ∈ zs → p.2 ∈ ys) ∧ (Closed ps zs → ys = zs))
        ⟨_, _, _, zs, rfl, s2, h2, fa, fun z hz => hz, .inl rfl, (fun p hp => by simp at hp), fun _ => rfl⟩ ?_ ?_ ?_
      · rintro j σ H3 _ ⟨_, _, _, ys, rfl, s3, _⟩
        exact SqL.of (s3 _ _ hb)
      · rintro j y σ H3 hy ⟨v3, v4, v5, ys, rfl, s3, h3, fa3, sub, gr, done, keep⟩
        rw [List.getElem?_map] at hy
        obtain ⟨t, et, rfl⟩ := Option.map_eq_some_iff.mp hy
        obtain ⟨p, ep, ht⟩ := hT.get et
        have hp : p ∈ ps := List.mem_of_getElem? ep
        have ht3 := s3 _ _ ht
        refine ⟨t, _, rfl, SqT.of ht3, rfl, _, _, rfl, _, _, rfl, rfl, ?_⟩
        have et' : ps.take (j + 1) = ps.take j ++ [p] := by rw [List.take_add_one, ep]; rfl
        refine ⟨_, rfl, _, rfl, fo, _, rfl, .inl (SqL.of h3), rfl, flat_strs ys, _, rfl, ?_⟩
        simp only [Bool.false_eq_true, if_false]
        rw [inV_str]
        by_cases h1 : p.1 ∈ ys
        · rw [decide_eq_true h1]
          refine iteT ⟨_, rfl, _, rfl, fo, _, rfl, .inl (SqL.of h3), rfl, flat_strs ys, _, rfl, ?_⟩
          simp only [if_true]
          rw [inV_str]
          by_cases h2' : p.2 ∈ ys
          · rw [decide_eq_true h2']
            refine iteF ⟨_, _, _, ys, rfl, s3, h3, fa3, sub, gr, fun q hq => ?_, keep⟩
            rw [et'] at hq
            rcases List.mem_append.mp hq with hq | hq
            · exact done q hq
            · rw [List.mem_singleton.mp hq]; exact fun _ => h2'
          · rw [decide_eq_false h2']
            have ly := fa3.len g ha
            refine iteT ⟨_, rfl, .inl ⟨rfl, _, SqL.of h3⟩, _, rfl, fo, _, _, rfl, rfl, h3, (by rw [List.length_map]; exact small1000 (by omega)), ?_⟩
            refine ⟨_, _, _, ys ++ [p.2], rfl, Same.upd_new s3 hfo, by rw [upd_same]; simp, ⟨nd_snoc fa3.nd h2', List.mem_append_left _ fa3.here, fun z hz => ?_⟩, fun z hz => List.mem_append_left _ (sub z hz), .inr ?_, fun q hq q1 => ?_, fun c => ?_⟩
            · rcases List.mem_append.mp hz with hz | hz
              · exact fa3.r z hz
              · rw [List.mem_singleton.mp hz]; exact (fa3.r _ h1).on hp
            · rw [List.length_append]
              rcases gr with e | e
              · rw [e]; simp
              · simp; omega
            · rw [et'] at hq
              rcases List.mem_append.mp hq with hq | hq
              · exact List.mem_append_left _ (done q hq q1)
              · rw [List.mem_singleton.mp hq]; exact List.mem_append_right _ (List.mem_singleton.mpr rfl)
            · exact absurd (by rw [keep c] at h1 ⊢; exact c p hp h1) h2'
        · rw [decide_eq_false h1]
          refine iteF ⟨_, _, _, ys, rfl, s3, h3, fa3, sub, gr, fun q hq q1 => ?_, keep⟩
          rw [et'] at hq
          rcases List.mem_append.mp hq with hq | hq
          · exact done q hq q1
          · rw [List.mem_singleton.mp hq] at q1; exact absurd (sub _ q1) h1
      · rintro σ H3 ⟨v3, v4, v5, ys, rfl, s3, h3, fa3, sub, gr, done, keep⟩
        refine ⟨_, _, _, ys, rfl, s3, h3, fa3, ?_⟩
        rw [lts, List.take_length] at done
        rcases cl with c | c
        · rw [keep c]; exact .inl c
        · rcases gr with e | e
          · exact .inl fun p hp h => by rw [e] at h; exact done p hp h
          · exact .inr (by omega)
    · rintro σ H2 ⟨v3, v4, v5, zs, rfl, s2, h2, fa, cl⟩
      refine ⟨_, rfl, k fo zs H2 hfo h2 fa.nd (fa.all ?_) s2⟩
      rcases cl with c | c
      · exact c
      · have := fa.len g ha
        have e : (12 : Int).toNat = 12 := rfl
        rw [e] at c
        omega
end
end K23

set_option Elab.async false
set_option linter.all false
set_option maxRecDepth 100000
set_option maxHeartbeats 4000000
namespace K23
open PySem PySem.Spec PyProof.Rows L2
abbrev sCuts : Stmt := top 36 -- _law_cuts
/-- a set of places, in order, that is left by no tie; not empty, not all -/
def IsCut (zs : List Str) (ps : List (Str × Str)) (c : List Str) : Prop := ∃ P : Str → Bool, c = zs.filter P ∧ (∀ p ∈ ps, P p.1 = true → P p.2 = true) ∧ (∃ z ∈ zs, P z = true) ∧ (∃ z ∈ zs, P z = false)
def bt (zs : List Str) (m : Nat) (z : Str) : Bool := m.testBit (zs.idxOf z)
def okM (zs : List Str) (ps : List (Str × Str)) (m : Nat) : Prop := ∀ p ∈ ps, bt zs m p.1 = true → bt zs m p.2 = true
theorem idx_at {zs : List Str} (nd : zs.Nodup) {k : Nat} (h : k < zs.length) : zs.idxOf zs[k] = k := by
  have h1 : zs.idxOf zs[k] < zs.length := List.idxOf_lt_length_iff.mpr (List.getElem_mem h)
  have h2 : zs[zs.idxOf zs[k]] = zs[k] := by simpa using List.getElem_idxOf h1
  exact (List.getElem_inj nd).mp h2
theorem cut_of_mask {zs : List Str} {ps : List (Str × Str)} (nd : zs.Nodup) {m : Nat} (h1 : 1 ≤ m) (h2 : m < 2 ^ zs.length - 1) (ok : okM zs ps m) : IsCut zs ps (sel zs m) := by
  refine ⟨bt zs m, rfl, ok, ?_, ?_⟩
  · obtain ⟨k, hk, e⟩ := mask_some (m := m) (n := zs.length) (by omega) (by omega)
    exact ⟨zs[k], List.getElem_mem hk, by unfold bt; rw [idx_at nd hk]; exact e⟩
  · obtain ⟨k, hk, e⟩ := mask_none (m := m) (n := zs.length) (by omega) (by omega)
    exact ⟨zs[k], List.getElem_mem hk, by unfold bt; rw [idx_at nd hk]; exact e⟩
theorem mask_of_cut {zs : List Str} {ps : List (Str × Str)} {c : List Str} (nd : zs.Nodup) (hi : InP zs ps) (h : IsCut zs ps c) : ∃ m, 1 ≤ m ∧ m < 2 ^ zs.length - 1 ∧ okM zs ps m ∧ c = sel zs m := by
  obtain ⟨P, rfl, cl, y, n⟩ := h
  obtain ⟨m, m1, m2, e⟩ := masks_all nd P y n
  refine ⟨m, m1, m2, fun p hp h => ?_, ?_⟩
  · have q := hi p hp
    unfold bt at h ⊢
    rw [e _ q.1] at h
    rw [e _ q.2]
    exact cl p hp h
  · exact List.filter_congr fun z hz => (e z hz).symm
/-- the pairs of numbers of a web's ties -/
def PairsAt (H : Hp) (us : List Addr) (zs : List Str) (ps : List (Str × Str)) : Prop := us.length = ps.length ∧ ∀ (i : Nat) u p, us[i]? = some u → ps[i]? = some p → H u = some (.tup [.int (zs.idxOf p.1 : Nat), .int (zs.idxOf p.2 : Nat)])
theorem PairsAt.same {H H' : Hp} {us : List Addr} {zs : List Str} {ps : List (Str × Str)} (h : PairsAt H us zs ps) (s : Same H H') : PairsAt H' us zs ps := ⟨h.1, fun i u p e1 e2 => s _ _ (h.2 i u p e1 e2)⟩
theorem PairsAt.snoc {H : Hp} {us : List Addr} {zs : List Str} {ps : List (Str × Str)} {u : Addr} {p : Str × Str} (h : PairsAt H us zs ps) (hu : H u = some (.tup [.int (zs.idxOf p.1 : Nat), .int (zs.idxOf p.2 : Nat)])) : PairsAt H (us ++ [u]) zs (ps ++ [p]) := by
  refine ⟨by simp [h.1], fun i u' p' e1 e2 => ?_⟩
  by_cases hi : i < us.length
  · rw [List.getElem?_append_left hi] at e1
    rw [List.getElem?_append_left (by rw [← h.1]; exact hi)] at e2
    exact h.2 i u' p' e1 e2
  · rw [List.getElem?_append_right (by omega)] at e1
    rw [List.getElem?_append_right (by have := h.1; omega)] at e2
    have hz : i - us.length = 0 := by
      rcases Nat.eq_zero_or_pos (i - us.length) with q | q
      · exact q
      · rw [List.getElem?_eq_none (by simp; omega)] at e1; cases e1
    rw [hz] at e1
    rw [← h.1, hz] at e2
    cases e1
    cases e2
    exact hu
theorem PairsAt.get {H : Hp} {us : List Addr} {zs : List Str} {ps : List (Str × Str)} (h : PairsAt H us zs ps) {i : Nat} {u : Addr} (e : us[i]? = some u) : ∃ p, ps[i]? = some p ∧ H u = some (.tup [.int (zs.idxOf p.1 : Nat), .int (zs.idxOf p.2 : Nat)]) := by
  have hi : i < ps.length := by rw [← h.1]; exact (List.getElem?_eq_some_iff.mp e).1
  exact ⟨ps[i], List.getElem?_eq_getElem hi, h.2 i u _ e (List.getElem?_eq_getElem hi)⟩
/-- mask >> k & 1 -/
theorem bit_val (m k : Nat) : V.int (Builtin.bitAnd ((m : Int) / 2 ^ ((k : Int).toNat)) 1) = V.int (if m.testBit k then 1 else 0) := by rw [and1]
section
variable {P : Program} {w : World} {K : PySem.W.Frag} {mg : Str → Option Value} {base : Heap}
def spCuts : Sp := fun vs H Q _ => ∃ (a b : Addr) (ns : List Str) (ts : List Addr) (ps : List (Str × Str)), vs = [.ref a, .ref b] ∧ Lists H a b ns ps ts ∧ ns.length ≤ 7 ∧
  ∀ (l : Addr) (us : List Addr) (cs : List (List Str)) (H' : Hp), H l = none → H' l = some (.lst (us.map V.ref)) → TupsAt H' us cs → cs.length ≤ 128 → (∀ c, c ∈ cs ↔ IsCut (srt ns) ps c) → Same H H' → Q (.ref l) H'
abbrev nCu : List Str := ["_law_names_here", "_law_ties", "_law_places", "_law_pairs", "_law_found", "_law_mask"]
theorem scCu : FnScope nCu ["_law_names_here", "_law_ties"] (defScope sCuts) := ⟨rfl, rfl, rfl, by decide +kernel, rfl, by decide +kernel, by decide +kernel⟩
theorem ok_cuts {f : Addr} {fd : FuncData} (F : Fun K "_law_cuts" "_law_cuts" sCuts f fd) (T : Glb mg) : FnOk P w K mg base CX0 1 f fd ["_law_names_here", "_law_ties"] spCuts := by
  refine F.ok scCu (fun vs H Q E h => ?_) (fun cdv A outer s H vs Q E hr h => ?_)
  · obtain ⟨a, b, ns, ts, ps, rfl, _⟩ := h
    rfl
  · obtain ⟨a, b, ns, ts, ps, rfl, L, small, k⟩ := h
    refine ⟨_, pss_cons (ps_set (i := 2) scCu.nd rfl (Or.inr rfl) (pe_callB call_sorted_txt (by rfl) T.sorted PyProof.Rows.boot_sorted (pa_cons (pv 0) pa_nil)))
      (pss_cons (ps_setL (i := 3) ["_law_a", "_law_b"] [2] scCu.nd rfl rfl rfl (compSc (osc := (defScope sCuts).names) (N := nCu) rfl rfl (by decide +kernel)) (gk_two (k := 2) (by decide) (by decide)) (pi_list (pv 1))
          (fun _ _ _ => pg_tup (n := 2) rfl (pgs_cons (pg_name (i := 0) (show (["_law_a", "_law_b", "_law_places"] : List Str).Nodup by decide +kernel) rfl (Or.inl rfl)) (pgs_cons (pg_name (i := 1) (show (["_law_a", "_law_b", "_law_places"] : List Str).Nodup by decide +kernel) rfl (Or.inl rfl)) pgs_nil))) (fun _ _ _ => pifs_nil)
          (fun _ _ _ => pe_tup (pa_cons (pe_bmK (K := K) (r := rIndex K) rfl PySem.F.plainAttrs_list PySem.F.slot_list_index PySem.F.type_list_index mt_index (pv 2) (pa_cons (pv 0) pa_nil)) (pa_cons (pe_bmK (K := K) (r := rIndex K) rfl PySem.F.plainAttrs_list PySem.F.slot_list_index PySem.F.type_list_index mt_index (pv 2) (pa_cons (pv 1) pa_nil)) pa_nil))))
      (pss_cons (ps_set (i := 4) scCu.nd rfl (Or.inl rfl) (pe_lst pa_nil))
      (pss_cons (ps_for PassesOwn.never rfl (pi_range2 rfl T.range (pa_cons pe_int (pa_cons (pe_op op_sub (pe_op op_shl pe_int (pe_callB call_len_seq (by rfl) T.len PySem.boot_len (pa_cons (pv 2) pa_nil))) pe_int) pa_nil))) (pg_name (i := 5) scCu.nd rfl (Or.inr rfl))
        (pss_one (ps_if (pt_cmpR (op_eq_nil (low 0 hr)) (pe_lc ["_law_a", "_law_b"] [5] rfl (compSc (osc := (defScope sCuts).names) (N := nCu) rfl rfl (by decide +kernel)) (gk_two (k := 2) (by decide) (by decide)) (pi_list (pv 3))
              (fun _ _ _ => pg_tup (n := 2) rfl (pgs_cons (pg_name (i := 0) (show (["_law_a", "_law_b", "_law_mask"] : List Str).Nodup by decide +kernel) rfl (Or.inl rfl)) (pgs_cons (pg_name (i := 1) (show (["_law_a", "_law_b", "_law_mask"] : List Str).Nodup by decide +kernel) rfl (Or.inl rfl)) pgs_nil)))
              (fun _ _ _ => pifs_one (PW.pt (pw_and (pt_cmpR op_eq (pe_op op_and (pe_op op_shr (pv 2) (pv 0)) pe_int) pe_int (nomark _)) (pw_and1 (pt_cmpR op_eq (pe_op op_and (pe_op op_shr (pv 2) (pv 1)) pe_int) pe_int (nomark _))))))
              (fun _ _ _ => pe_int)) (pe_lst pa_nil) (nomark _))
          (pss_one (ps_expr (pe_bm PySem.F.plainAttrs_list PySem.F.slot_list_append PySem.F.type_list_append mt_append (pv 4) (pa_cons (pe_callTy call_tuple_of (by rfl) T.tuple PyProof.Rows.boot_tuple (pa_cons
            (pe_lc ["_law_k"] [5, 2] rfl (compSc (osc := (defScope sCuts).names) (N := nCu) rfl rfl (by decide +kernel)) (gk_name (by decide)) (pi_range1 rfl T.range (pa_cons (pe_callB call_len_seq (by rfl) T.len PySem.boot_len (pa_cons (pv 2) pa_nil)) pa_nil))
              (fun _ _ _ => pg_name (i := 0) (show (["_law_k", "_law_mask", "_law_places"] : List Str).Nodup by decide +kernel) rfl (Or.inl rfl)) (fun _ _ _ => pifs_one (pt_cmpR op_eq (pe_op op_and (pe_op op_shr (pv 1) (pv 0)) pe_int) pe_int (nomark _)))
              (fun _ _ _ => pe_ix (r := rIxL K) ix_list (pv 2) (pv 0) (fun _ _ => rfl))) pa_nil)) pa_nil)))) pss_nil)))
      (pss_one (ps_ret (pv 4)))))), ?_⟩
    -- places = sorted(names)
    refine ⟨_, rfl, a, ns, rfl, SqL.of L.ha, Nat.lt_of_le_of_lt L.good.few (by decide), fun pl hpl => ?_⟩
    have s1 := same_upd (o := .lst ((srt ns).map V.str)) hpl
    have k1 := upd_same (H := H) (a := pl) (o := .lst ((srt ns).map V.str))
    generalize upd H pl (.lst ((srt ns).map V.str)) = H1 at s1 k1 ⊢
    have L1 := L.same s1
    have nd : (srt ns).Nodup := srt_nd L.good.nd
    have ins : InP (srt ns) ps := fun p hp => ⟨srt_mem.mpr (L.ins p hp).1, srt_mem.mpr (L.ins p hp).2⟩
    have ln : (srt ns).length = ns.length := srt_len ns
    generalize srt ns = zs at nd ins ln k1 k ⊢
    have le : (ts.map V.ref).length = ps.length := by rw [List.length_map, L.hT.len]
    have lz : zs.length ≤ 7 := by omega
    have few := L.few
    -- pairs
    refine ⟨_, rfl, b, rfl, ⟨_, SqL.of L1.hb⟩, lc_list (K := K) (xs := ts.map V.ref) (fun i ys H5 => Same H1 H5 ∧ ∃ us : List Addr, ys = us.map V.ref ∧ us.length = i ∧ PairsAt H5 us zs (ps.take i)) ⟨Same.refl _, [], rfl, rfl, rfl, (fun i u p e => by simp at e)⟩ ?_ ?_ ?_ ?_⟩
    · rintro i ys H5 hi ⟨_, us, rfl, e, _⟩
      rw [List.length_map, e]
      rw [le] at hi
      exact Nat.le_trans hi (Nat.le_trans few (by decide))
    · rintro i ys H5 _ ⟨s5, _⟩
      exact SqL.of (s5 _ _ L1.hb)
    · rintro i y ys H5 R hy ⟨s5, us, rfl, e, hU⟩ kR
      rw [List.getElem?_map] at hy
      obtain ⟨t, et, rfl⟩ := Option.map_eq_some_iff.mp hy
      obtain ⟨p, ep, ht⟩ := L1.hT.get et
      have hp := ins p (List.mem_of_getElem? ep)
      refine ⟨t, _, rfl, SqT.of (s5 _ _ ht), rfl, _, _, rfl, _, _, rfl, rfl, ?_⟩
      simp only [tYes, if_true]
      have kz := s5 _ _ k1
      refine ⟨_, rfl, .inl ⟨rfl, _, SqL.of kz⟩, _, rfl, pl, zs, p.1, rfl, rfl, SqL.of kz, hp.1, by omega, _, rfl, .inl ⟨rfl, _, SqL.of kz⟩, _, rfl, pl, zs, p.2, rfl, rfl, SqL.of kz, hp.2, by omega, (by show 2 ≤ sizeLine; decide), fun u hu => ?_⟩
      have e2 : us.map V.ref ++ [V.ref u] = (us ++ [u]).map V.ref := by simp
      refine kR _ _ ⟨s5.trans (same_upd hu), us ++ [u], e2, by simp [e], ?_⟩
      rw [List.take_add_one, ep]
      exact PairsAt.snoc (hU.same (same_upd hu)) upd_same
    rintro ys H5 ⟨s5, us, rfl, e, hU⟩ pr hpr
    rw [le, List.take_length] at hU
    have s6 := s5.trans (same_upd (o := .lst (us.map V.ref)) hpr)
    have k6 := upd_same (H := H5) (a := pr) (o := .lst (us.map V.ref))
    have U6 := hU.same (same_upd (o := .lst (us.map V.ref)) hpr)
    generalize upd H5 pr (.lst (us.map V.ref)) = H6 at s6 k6 U6 ⊢
    clear s5 hU hpr
    have lu : (us.map V.ref).length = ps.length := by rw [List.length_map, U6.1]
    -- found = []
    refine ⟨(by decide), fun fo hfo => ?_⟩
    have s7 := s6.trans (same_upd (o := .lst []) hfo)
    have f0 : H fo = none := (s1.trans s6).free hfo
    have n1 : H1 fo = none := s6.free hfo
    have pw : 1 ≤ 2 ^ zs.length := Nat.one_le_two_pow
    have pw7 : 2 ^ zs.length ≤ 128 := Nat.le_trans (Nat.pow_le_pow_right (by decide) lz) (by decide)
    have lzm : ((zs.map V.str).length : Int) = zs.length := by rw [List.length_map]
    have eR : ((1 : Int) * 2 ^ (((zs.map V.str).length : Int)).toNat) = ((2 ^ zs.length : Nat) : Int) := by
      rw [lzm, Int.toNat_natCast, Int.one_mul]
      norm_cast
    refine ⟨_, rfl, pl, _, rfl, .inl (SqL.of (s7 _ _ k1)), _, _, rfl, rfl, ⟨by omega, by omega, by decide⟩, _, _, rfl, rfl, _, _, rfl, ⟨by decide, by decide, by rw [eR]; omega, by rw [eR]; omega⟩, ?_⟩
    have eN : ((1 : Int) * 2 ^ (((zs.map V.str).length : Int)).toNat - 1 - 1).toNat = 2 ^ zs.length - 2 := by rw [eR]; omega
    rw [eN]
    refine for_range (fun i σ H2 => ∃ (v5 : Option V) (us' : List Addr) (cs : List (List Str)), σ = [some (.ref a), some (.ref b), some (.ref pl), some (.ref pr), some (.ref fo), v5] ∧ Same H6 H2 ∧ H2 fo = some (.lst (us'.map V.ref)) ∧ TupsAt H2 us' cs ∧ cs.length ≤ i ∧ ∀ c, c ∈ cs ↔ ∃ m, 1 ≤ m ∧ m < 1 + i ∧ okM zs ps m ∧ c = sel zs m)
      ⟨_, [], [], rfl, same_upd hfo, upd_same, ⟨rfl, (fun i t c e => by simp at e)⟩, Nat.le_refl _, fun c => ⟨(fun q => nomatch q), fun ⟨m, q1, q2, _⟩ => by omega⟩⟩ ?_ ?_
    · rintro i σ H2 hi ⟨v5, us', cs, rfl, s2, h2, T2, lc, mem⟩
      have em : ((1 : Int) + (i : Int)) = ((1 + i : Nat) : Int) := by omega
      rw [em]
      generalize hm : 1 + i = m
      have U2 := U6.same s2
      have kp2 := s2 _ _ k6
      -- the ties that lead out of it
      refine ⟨_, rfl, pr, rfl, ⟨_, SqL.of kp2⟩, lc_list (K := K) (xs := us.map V.ref) (fun j ys H5 => H5 = H2 ∧ ys.length ≤ j ∧ (ys = [] ↔ ∀ p ∈ ps.take j, bt zs m p.1 = true → bt zs m p.2 = true)) ⟨rfl, Nat.le_refl _, ⟨fun _ p hp => by simp at hp, fun _ => rfl⟩⟩ ?_ ?_ ?_ ?_⟩
      · rintro j ys H5 hj ⟨_, l, _⟩
        rw [lu] at hj
        exact Nat.le_trans l (Nat.le_trans hj (Nat.le_trans few (by decide)))
      · rintro j ys H5 _ ⟨rfl, _⟩
        exact SqL.of kp2
      · rintro j y ys H5 R hy ⟨rfl, ly, no⟩ kR
        rw [List.getElem?_map] at hy
        obtain ⟨u, eu, rfl⟩ := Option.map_eq_some_iff.mp hy
        obtain ⟨p, ep, hu⟩ := U2.get eu
        have et : ps.take (j + 1) = ps.take j ++ [p] := by rw [List.take_add_one, ep]; rfl
        refine ⟨u, _, rfl, SqT.of hu, rfl, _, _, rfl, _, _, rfl, rfl, ?_⟩
        refine ⟨_, rfl, _, rfl, _, _, rfl, rfl, (by show (0 : Int) ≤ _; omega), _, _, rfl, rfl, ?_⟩
        dsimp only
        rw [bit_val]
        refine ⟨rfl, _, rfl, ?_⟩
        by_cases h1 : bt zs m p.1 = true
        · have h1' : m.testBit (zs.idxOf p.1) = true := h1
          rw [h1', if_pos rfl, decide_eq_true (rfl : V.int 1 = V.int 1)]
          refine iteT ⟨_, rfl, _, rfl, _, _, rfl, rfl, (by show (0 : Int) ≤ _; omega), _, _, rfl, rfl, ?_⟩
          dsimp only
          rw [bit_val]
          refine ⟨rfl, _, rfl, ?_⟩
          by_cases h2' : bt zs m p.2 = true
          · have h2'' : m.testBit (zs.idxOf p.2) = true := h2'
            rw [h2'', if_pos rfl, decide_eq_false (show ¬ (V.int 1 = V.int 0) from fun z => by injection z with z; omega)]
            refine iteF (kR _ _ ⟨rfl, Nat.le_succ_of_le ly, no.trans ?_⟩)
            rw [et]
            exact ⟨fun q p' hp' => (List.mem_append.mp hp').elim (q p') fun z => by rw [List.mem_singleton.mp z]; exact fun _ => h2', fun q p' hp' => q p' (List.mem_append_left _ hp')⟩
          · have h2'' : m.testBit (zs.idxOf p.2) = false := Bool.eq_false_iff.mpr h2'
            rw [h2'', if_neg Bool.false_ne_true, decide_eq_true (rfl : V.int 0 = V.int 0)]
            refine iteT (kR _ _ ⟨rfl, by simp; omega, ⟨fun z => by simp at z, fun q => ?_⟩⟩)
            exact absurd (q p (by rw [et]; exact List.mem_append_right _ (List.mem_singleton.mpr rfl)) h1) h2'
        · have h1' : m.testBit (zs.idxOf p.1) = false := Bool.eq_false_iff.mpr h1
          rw [h1', if_neg Bool.false_ne_true, decide_eq_false (show ¬ (V.int 0 = V.int 1) from fun z => by injection z with z; omega)]
          refine iteF (kR _ _ ⟨rfl, Nat.le_succ_of_le ly, no.trans ?_⟩)
          rw [et]
          exact ⟨fun q p' hp' => (List.mem_append.mp hp').elim (q p') fun z => by rw [List.mem_singleton.mp z]; exact fun z => absurd z h1, fun q p' hp' => q p' (List.mem_append_left _ hp')⟩
      rintro ys H5 ⟨rfl, ly, no⟩ D1 hD1
      rw [lu, List.take_length] at no
      have t1 := same_upd (o := .lst ys) hD1
      have q1 := upd_same (H := H5) (a := D1) (o := .lst ys)
      generalize upd H5 D1 (.lst ys) = H8 at t1 q1 ⊢
      refine ⟨(by decide), fun D2 hD2 => ?_⟩
      have t2 := t1.trans (same_upd (o := .lst []) hD2)
      refine ⟨D1, D2, ys, rfl, rfl, SqL.of (same_upd hD2 _ _ q1), SqL.of upd_same, _, rfl, ?_⟩
      generalize upd H8 D2 (.lst []) = H9 at t2 ⊢
      clear q1 t1 hD1 hD2
      have s9 := s2.trans t2
      have h9 := t2 _ _ h2
      have T9 := T2.same t2
      by_cases hy : ys = []
      · rw [decide_eq_true hy]
        have okm : okM zs ps m := no.mp hy
        refine iteT ⟨_, rfl, .inl ⟨rfl, _, SqL.of h9⟩, _, rfl, pl, _, rfl, .inl (SqL.of (s9 _ _ (s6 _ _ k1))), _, rfl, by omega, by rw [lzm]; omega, ?_⟩
        have en : (((zs.map V.str).length : Int)).toNat = zs.length := by rw [lzm, Int.toNat_natCast]
        rw [en]
        refine lc_range (fun j ys H5 => H5 = H9 ∧ ys = ((zs.take j).filter (bt zs m)).map V.str) ⟨rfl, rfl⟩ ?_ ?_ ?_
        · rintro j ys H5 hj ⟨_, rfl⟩
          rw [List.length_map]
          refine Nat.le_trans (List.length_filter_le _ _) ?_
          rw [List.length_take]
          exact Nat.le_trans (Nat.min_le_right _ _) (Nat.le_trans lz (by decide))
        · rintro j ys H5 R hj ⟨rfl, rfl⟩ kR
          simp only [gName]
          rw [Int.zero_add]
          refine ⟨_, rfl, _, rfl, _, _, rfl, rfl, (by show (0 : Int) ≤ _; omega), _, _, rfl, rfl, ?_⟩
          dsimp only
          rw [bit_val]
          refine ⟨rfl, _, rfl, ?_⟩
          have et : (zs.take (j + 1)).filter (bt zs m) = (zs.take j).filter (bt zs m) ++ (if m.testBit j then [zs[j]] else []) := by
            rw [List.take_add_one, List.getElem?_eq_getElem hj, List.filter_append]
            have : bt zs m zs[j] = m.testBit j := by unfold bt; rw [idx_at nd hj]
            cases hb : m.testBit j <;> simp [this, hb]
          by_cases hb : m.testBit j = true
          · rw [hb, if_pos rfl, decide_eq_true (rfl : V.int 1 = V.int 1)]
            rw [hb, if_pos rfl] at et
            refine iteT ⟨_, rfl, _, rfl, pl, _, _, _, rfl, rfl, SqL.of (s9 _ _ (s6 _ _ k1)), atI_nat (j := j) (v := .str zs[j]) (by simp [hj]), kR _ _ ⟨rfl, ?_⟩⟩
            rw [et]; simp
          · have hb' : m.testBit j = false := by simpa using hb
            rw [hb', if_neg Bool.false_ne_true, decide_eq_false (show ¬ (V.int 0 = V.int 1) from fun z => by injection z with z; omega)]
            rw [hb', if_neg Bool.false_ne_true] at et
            refine iteF (kR _ _ ⟨rfl, ?_⟩)
            rw [et]; simp
        · rintro ys2 H5 ⟨rfl, rfl⟩ D3 hD3
          rw [List.take_length]
          have t3 := same_upd (o := .lst ((zs.filter (bt zs m)).map V.str)) hD3
          refine ⟨D3, _, rfl, .inl ⟨SqL.of upd_same, fun tp htp => ?_⟩⟩
          have t4 := t3.trans (same_upd (o := .tup ((zs.filter (bt zs m)).map V.str)) htp)
          have q4 := upd_same (H := upd H5 D3 (.lst ((zs.filter (bt zs m)).map V.str))) (a := tp) (o := .tup ((zs.filter (bt zs m)).map V.str))
          generalize upd (upd H5 D3 (.lst ((zs.filter (bt zs m)).map V.str))) tp (.tup ((zs.filter (bt zs m)).map V.str)) = H10 at t4 q4 ⊢
          have h10 := t4 _ _ h9
          have lus : us'.length ≤ i := by rw [T9.1]; exact lc
          refine ⟨fo, _, _, rfl, rfl, h10, (by rw [List.length_map]; exact small1000 (by omega)), ?_⟩
          have nft : tp ≠ fo := ne_of q4 h10 (by intro z; cases z)
          refine ⟨_, us' ++ [tp], cs ++ [sel zs m], rfl, Same.upd_new (s9.trans t4) hfo, by rw [upd_same]; simp, ?_, by simp; omega, fun c => ?_⟩
          · refine TupsAt.snoc ⟨T9.1, fun x t c e1 e2 => ?_⟩ ?_
            · have := t4 _ _ (T9.2 x t c e1 e2)
              rw [L2.upd_ne (ne_of this h10 (by intro z; cases z))]
              exact this
            · rw [L2.upd_ne nft]; exact q4
          · rw [List.mem_append, mem, List.mem_singleton]
            constructor
            · rintro (⟨m', a1, a2, a3, a4⟩ | rfl)
              · exact ⟨m', a1, by omega, a3, a4⟩
              · exact ⟨m, by omega, by omega, okm, rfl⟩
            · rintro ⟨m', a1, a2, a3, a4⟩
              rcases Nat.lt_or_ge m' (1 + i) with q | q
              · exact .inl ⟨m', a1, q, a3, a4⟩
              · have : m' = m := by omega
                subst this
                exact .inr a4
      · rw [decide_eq_false hy]
        refine iteF ⟨_, us', cs, rfl, s9, h9, T9, by omega, fun c => ?_⟩
        rw [mem]
        constructor
        · rintro ⟨m', a1, a2, a3, a4⟩
          exact ⟨m', a1, by omega, a3, a4⟩
        · rintro ⟨m', a1, a2, a3, a4⟩
          rcases Nat.lt_or_ge m' (1 + i) with q | q
          · exact ⟨m', a1, q, a3, a4⟩
          · have : m' = m := by omega
            subst this
            exact absurd (no.mpr a3) hy
    · rintro σ H2 ⟨v5, us', cs, rfl, s2, h2, T2, lc, mem⟩
      refine ⟨_, rfl, k fo us' cs H2 f0 h2 T2 (by omega) (fun c => ?_) (s1.trans (s6.trans s2))⟩
      rw [mem]
      constructor
      · rintro ⟨m, a1, a2, a3, rfl⟩
        exact cut_of_mask nd a1 (by omega) a3
      · intro h
        obtain ⟨m, a1, a2, a3, a4⟩ := mask_of_cut nd ins h
        exact ⟨m, a1, by omega, a3, a4⟩
end
end K23

set_option Elab.async false
set_option linter.all false
set_option maxRecDepth 100000
set_option maxHeartbeats 4000000
namespace L2
open PySem PySem.Spec PyProof.Rows
theorem pi_listK {X : Cx} {K : PySem.W.Frag} {tg l : Expr} {tl : TE} (hK : X.K = K) (hl : PE X l tl) : PI X tg l (iList K tl) := by
  subst hK
  exact pi_list hl
end L2
namespace K23
open PySem PySem.Spec PyProof.Rows L2
abbrev sAllHave : Stmt := top 37 -- _law_all_have
abbrev sAnyHas : Stmt := top 38 -- _law_any_has
def allHave (ns : List Str) (cs : List (List Str)) : List Str := (srt ns).filter fun z => decide (∀ c ∈ cs, z ∈ c)
def anyHas (ns : List Str) (cs : List (List Str)) : List Str := (srt ns).filter fun z => decide (∃ c ∈ cs, z ∈ c)
/-- a list of cuts -/
structure CutsAt (K : PySem.W.Frag) (H : Hp) (l : Addr) (us : List Addr) (cs : List (List Str)) : Prop where
  hl : H l = some (.lst (us.map V.ref))
  hT : TupsAt H us cs
  few : cs.length ≤ 128
theorem CutsAt.same {K : PySem.W.Frag} {H H' : Hp} {l : Addr} {us : List Addr} {cs : List (List Str)} (h : CutsAt K H l us cs) (s : Same H H') : CutsAt K H' l us cs := ⟨s _ _ h.hl, h.hT.same s, h.few⟩
section
variable {P : Program} {w : World} {K : PySem.W.Frag} {mg : Str → Option Value} {base : Heap}
def spAllHave : Sp := fun vs H Q _ => ∃ (a l : Addr) (ns : List Str) (us : List Addr) (cs : List (List Str)), vs = [.ref a, .ref l] ∧ H a = some (.lst (ns.map V.str)) ∧ ns.length ≤ 12 ∧ CutsAt K H l us cs ∧ ∀ (t : Addr) (H' : Hp), H t = none → H' t = some (.tup ((allHave ns cs).map V.str)) → Same H H' → Q (.ref t) H'
theorem scAllHave : FnScope ["_law_names_here", "_law_some"] ["_law_names_here", "_law_some"] (defScope sAllHave) := ⟨rfl, rfl, rfl, by decide +kernel, rfl, by decide +kernel, by decide +kernel⟩
theorem ok_allHave {f : Addr} {fd : FuncData} (F : Fun K "_law_all_have" "_law_all_have" sAllHave f fd) (T : Glb mg) : FnOk P w K mg base CX0 1 f fd ["_law_names_here", "_law_some"] (spAllHave (K := K)) := by
  refine F.ok scAllHave (fun vs H Q E h => ?_) (fun cdv A outer s H vs Q E hr h => ?_)
  · obtain ⟨a, l, ns, us, cs, rfl, _⟩ := h
    rfl
  · obtain ⟨a, l, ns, us, cs, rfl, ha, small, C, k⟩ := h
    refine ⟨_, pss_one (ps_ret (pe_callTy call_tuple_of (by rfl) T.tuple PyProof.Rows.boot_tuple (pa_cons
        (pe_lc ["_law_name"] [1] rfl (compSc (osc := (defScope sAllHave).names) (N := ["_law_names_here", "_law_some"]) rfl rfl (by decide +kernel)) (gk_name (by decide)) (pi_list (pe_callB call_sorted_txt (by rfl) T.sorted PyProof.Rows.boot_sorted (pa_cons (pv 0) pa_nil)))
          (fun _ _ _ => pg_name (i := 0) (show (["_law_name", "_law_some"] : List Str).Nodup by decide +kernel) rfl (Or.inr rfl))
          (fun _ _ _ => pifs_one (pt_cmpR (r := rEqNil K false) (op_eq_nil (low 0 hr))
            (pe_lc ["_law_cut"] [0] rfl (compSc (osc := [(".0", .local), ("_law_name", .cell), ("_law_some", .cell)]) (N := ["_law_name", "_law_some"]) rfl rfl (by decide +kernel)) (gk_name (by decide)) (pi_listK (K := K) rfl (pv 1))
              (fun _ _ _ => pg_name (i := 0) (show (["_law_cut", "_law_name"] : List Str).Nodup by decide +kernel) rfl (Or.inl rfl)) (fun _ _ _ => pifs_one (pt_cmpR (r := rIn K true) op_notIn_seq (pv 1) (pv 0) rfl))
              (fun _ _ _ => pv 0)) (pe_lst pa_nil) (nomark _)))
          (fun _ _ _ => pv 0)) pa_nil))), ?_⟩
    refine ⟨_, rfl, a, ns, rfl, SqL.of ha, by omega, fun pl hpl => ⟨pl, rfl, ⟨_, SqL.of upd_same⟩, ?_⟩⟩
    have s1 := same_upd (o := .lst ((srt ns).map V.str)) hpl
    have k1 := upd_same (H := H) (a := pl) (o := .lst ((srt ns).map V.str))
    generalize upd H pl (.lst ((srt ns).map V.str)) = H1 at s1 k1 ⊢
    have C1 := C.same s1
    have ln : (srt ns).length = ns.length := srt_len ns
    have lu : (us.map V.ref).length = cs.length := by rw [List.length_map, C.hT.1]
    refine lc_list (K := K) (xs := (srt ns).map V.str) (fun i ys H5 => Same H1 H5 ∧ ys = (((srt ns).take i).filter fun z => decide (∀ c ∈ cs, z ∈ c)).map V.str) ⟨Same.refl _, rfl⟩ ?_ ?_ ?_ ?_
    · rintro i ys H5 hi ⟨_, rfl⟩
      rw [List.length_map]
      refine Nat.le_trans (List.length_filter_le _ _) ?_
      rw [List.length_take, ln]
      exact Nat.le_trans (Nat.min_le_right _ _) (Nat.le_trans small (by decide))
    · rintro i ys H5 _ ⟨s5, _⟩
      exact SqL.of (s5 _ _ k1)
    · rintro i y ys H5 R hy ⟨s5, rfl⟩ kR
      rw [List.getElem?_map] at hy
      obtain ⟨z, ez, rfl⟩ := Option.map_eq_some_iff.mp hy
      have ef : ((srt ns).take (i + 1)).filter (fun z => decide (∀ c ∈ cs, z ∈ c)) = ((srt ns).take i).filter (fun z => decide (∀ c ∈ cs, z ∈ c)) ++ (if ∀ c ∈ cs, z ∈ c then [z] else []) := by
        rw [List.take_add_one, ez, List.filter_append]
        congr 1
        show List.filter _ [z] = _
        rw [List.filter_cons]
        by_cases h : ∀ c ∈ cs, z ∈ c
        · rw [if_pos h, if_pos (decide_eq_true h)]; rfl
        · rw [if_neg h, if_neg (fun e => h (of_decide_eq_true e))]; rfl
      have C5 := C1.same s5
      simp only [gName]
      refine ⟨_, rfl, l, rfl, ⟨_, SqL.of C5.hl⟩, lc_list (K := K) (xs := us.map V.ref) (fun j vs H6 => H6 = H5 ∧ vs.length ≤ j ∧ (vs = [] ↔ ∀ c ∈ cs.take j, z ∈ c)) ⟨rfl, Nat.le_refl _, ⟨fun _ c hc => by simp at hc, fun _ => rfl⟩⟩ ?_ ?_ ?_ ?_⟩
      · rintro j vs H6 hj ⟨_, q, _⟩
        rw [lu] at hj
        exact Nat.le_trans q (Nat.le_trans hj (Nat.le_trans C.few (by decide)))
      · rintro j vs H6 _ ⟨rfl, _⟩
        exact SqL.of C5.hl
      · rintro j y vs H6 R2 hy ⟨rfl, lv, no⟩ kR2
        rw [List.getElem?_map] at hy
        obtain ⟨u, eu, rfl⟩ := Option.map_eq_some_iff.mp hy
        obtain ⟨c, ec, hu⟩ := C5.hT.get eu
        have et : cs.take (j + 1) = cs.take j ++ [c] := by rw [List.take_add_one, ec]; rfl
        simp only [gName]
        refine ⟨_, rfl, _, rfl, u, _, rfl, .inr (SqT.of hu), rfl, flat_strs c, _, rfl, ?_⟩
        simp only [if_true]
        rw [inV_str]
        by_cases hz : z ∈ c
        · rw [decide_eq_true hz]
          refine iteF (kR2 _ _ ⟨rfl, Nat.le_succ_of_le lv, no.trans ?_⟩)
          rw [et]
          exact ⟨fun q c hc => (List.mem_append.mp hc).elim (q c) fun e => by rw [List.mem_singleton.mp e]; exact hz, fun q c hc => q c (List.mem_append_left _ hc)⟩
        · rw [decide_eq_false hz]
          refine iteT ⟨_, rfl, kR2 _ _ ⟨rfl, by simp; omega, ⟨fun e => by simp at e, fun q => ?_⟩⟩⟩
          exact absurd (q c (by rw [et]; exact List.mem_append_right _ (List.mem_singleton.mpr rfl))) hz
      · rintro vs H6 ⟨rfl, lv, no⟩ D1 hD1
        rw [lu, List.take_length] at no
        have t1 := same_upd (o := .lst vs) hD1
        have q1 := upd_same (H := H6) (a := D1) (o := .lst vs)
        generalize upd H6 D1 (.lst vs) = H7 at t1 q1 ⊢
        refine ⟨(by decide), fun D2 hD2 => ?_⟩
        have t2 := t1.trans (same_upd (o := .lst []) hD2)
        refine ⟨D1, D2, vs, rfl, rfl, SqL.of (same_upd hD2 _ _ q1), SqL.of upd_same, _, rfl, ?_⟩
        generalize upd H7 D2 (.lst []) = H8 at t2 ⊢
        simp only [Bool.false_eq_true, if_false]
        by_cases hv : vs = []
        · have p : ∀ c ∈ cs, z ∈ c := no.mp hv
          rw [decide_eq_true hv]
          rw [if_pos p] at ef
          refine iteT ⟨_, rfl, kR _ _ ⟨s5.trans t2, ?_⟩⟩
          rw [ef]; simp
        · have p : ¬ ∀ c ∈ cs, z ∈ c := fun q => hv (no.mpr q)
          rw [decide_eq_false hv]
          rw [if_neg p] at ef
          refine iteF (kR _ _ ⟨s5.trans t2, ?_⟩)
          rw [ef]; simp
    · rintro ys H5 ⟨s5, rfl⟩ D3 hD3
      rw [List.length_map, List.take_length]
      have t3 := same_upd (o := .lst (((srt ns).filter fun z => decide (∀ c ∈ cs, z ∈ c)).map V.str)) hD3
      refine ⟨D3, _, rfl, .inl ⟨SqL.of upd_same, fun t ht => ?_⟩⟩
      have s6 := s1.trans (s5.trans t3)
      exact k t _ (s6.free ht) upd_same (s6.trans (same_upd ht))
def spAnyHas : Sp := fun vs H Q _ => ∃ (a l : Addr) (ns : List Str) (us : List Addr) (cs : List (List Str)), vs = [.ref a, .ref l] ∧ H a = some (.lst (ns.map V.str)) ∧ ns.length ≤ 12 ∧ CutsAt K H l us cs ∧ ∀ (t : Addr) (H' : Hp), H t = none → H' t = some (.tup ((anyHas ns cs).map V.str)) → Same H H' → Q (.ref t) H'
theorem scAnyHas : FnScope ["_law_names_here", "_law_some"] ["_law_names_here", "_law_some"] (defScope sAnyHas) := ⟨rfl, rfl, rfl, by decide +kernel, rfl, by decide +kernel, by decide +kernel⟩
theorem ok_anyHas {f : Addr} {fd : FuncData} (F : Fun K "_law_any_has" "_law_any_has" sAnyHas f fd) (T : Glb mg) : FnOk P w K mg base CX0 1 f fd ["_law_names_here", "_law_some"] (spAnyHas (K := K)) := by
  refine F.ok scAnyHas (fun vs H Q E h => ?_) (fun cdv A outer s H vs Q E hr h => ?_)
  · obtain ⟨a, l, ns, us, cs, rfl, _⟩ := h
    rfl
  · obtain ⟨a, l, ns, us, cs, rfl, ha, small, C, k⟩ := h
    refine ⟨_, pss_one (ps_ret (pe_callTy call_tuple_of (by rfl) T.tuple PyProof.Rows.boot_tuple (pa_cons
        (pe_lc ["_law_name"] [1] rfl (compSc (osc := (defScope sAnyHas).names) (N := ["_law_names_here", "_law_some"]) rfl rfl (by decide +kernel)) (gk_name (by decide)) (pi_list (pe_callB call_sorted_txt (by rfl) T.sorted PyProof.Rows.boot_sorted (pa_cons (pv 0) pa_nil)))
          (fun _ _ _ => pg_name (i := 0) (show (["_law_name", "_law_some"] : List Str).Nodup by decide +kernel) rfl (Or.inr rfl))
          (fun _ _ _ => pifs_one (pt_cmpR (r := rEqNil K true) (op_ne_nil (low 0 hr))
            (pe_lc ["_law_cut"] [0] rfl (compSc (osc := [(".0", .local), ("_law_name", .cell), ("_law_some", .cell)]) (N := ["_law_name", "_law_some"]) rfl rfl (by decide +kernel)) (gk_name (by decide)) (pi_listK (K := K) rfl (pv 1))
              (fun _ _ _ => pg_name (i := 0) (show (["_law_cut", "_law_name"] : List Str).Nodup by decide +kernel) rfl (Or.inl rfl)) (fun _ _ _ => pifs_one (pt_cmpR (r := rIn K false) op_in_seq (pv 1) (pv 0) rfl))
              (fun _ _ _ => pv 0)) (pe_lst pa_nil) (nomark _)))
          (fun _ _ _ => pv 0)) pa_nil))), ?_⟩
    refine ⟨_, rfl, a, ns, rfl, SqL.of ha, by omega, fun pl hpl => ⟨pl, rfl, ⟨_, SqL.of upd_same⟩, ?_⟩⟩
    have s1 := same_upd (o := .lst ((srt ns).map V.str)) hpl
    have k1 := upd_same (H := H) (a := pl) (o := .lst ((srt ns).map V.str))
    generalize upd H pl (.lst ((srt ns).map V.str)) = H1 at s1 k1 ⊢
    have C1 := C.same s1
    have ln : (srt ns).length = ns.length := srt_len ns
    have lu : (us.map V.ref).length = cs.length := by rw [List.length_map, C.hT.1]
    refine lc_list (K := K) (xs := (srt ns).map V.str) (fun i ys H5 => Same H1 H5 ∧ ys = (((srt ns).take i).filter fun z => decide (∃ c ∈ cs, z ∈ c)).map V.str) ⟨Same.refl _, rfl⟩ ?_ ?_ ?_ ?_
    · rintro i ys H5 hi ⟨_, rfl⟩
      rw [List.length_map]
      refine Nat.le_trans (List.length_filter_le _ _) ?_
      rw [List.length_take, ln]
      exact Nat.le_trans (Nat.min_le_right _ _) (Nat.le_trans small (by decide))
    · rintro i ys H5 _ ⟨s5, _⟩
      exact SqL.of (s5 _ _ k1)
    · rintro i y ys H5 R hy ⟨s5, rfl⟩ kR
      rw [List.getElem?_map] at hy
      obtain ⟨z, ez, rfl⟩ := Option.map_eq_some_iff.mp hy
      have ef : ((srt ns).take (i + 1)).filter (fun z => decide (∃ c ∈ cs, z ∈ c)) = ((srt ns).take i).filter (fun z => decide (∃ c ∈ cs, z ∈ c)) ++ (if ∃ c ∈ cs, z ∈ c then [z] else []) := by
        rw [List.take_add_one, ez, List.filter_append]
        congr 1
        show List.filter _ [z] = _
        rw [List.filter_cons]
        by_cases h : ∃ c ∈ cs, z ∈ c
        · rw [if_pos h, if_pos (decide_eq_true h)]; rfl
        · rw [if_neg h, if_neg (fun e => h (of_decide_eq_true e))]; rfl
      have C5 := C1.same s5
      simp only [gName]
      refine ⟨_, rfl, l, rfl, ⟨_, SqL.of C5.hl⟩, lc_list (K := K) (xs := us.map V.ref) (fun j vs H6 => H6 = H5 ∧ vs.length ≤ j ∧ (vs = [] ↔ ∀ c ∈ cs.take j, z ∉ c)) ⟨rfl, Nat.le_refl _, ⟨fun _ c hc => by simp at hc, fun _ => rfl⟩⟩ ?_ ?_ ?_ ?_⟩
      · rintro j vs H6 hj ⟨_, q, _⟩
        rw [lu] at hj
        exact Nat.le_trans q (Nat.le_trans hj (Nat.le_trans C.few (by decide)))
      · rintro j vs H6 _ ⟨rfl, _⟩
        exact SqL.of C5.hl
      · rintro j y vs H6 R2 hy ⟨rfl, lv, no⟩ kR2
        rw [List.getElem?_map] at hy
        obtain ⟨u, eu, rfl⟩ := Option.map_eq_some_iff.mp hy
        obtain ⟨c, ec, hu⟩ := C5.hT.get eu
        have et : cs.take (j + 1) = cs.take j ++ [c] := by rw [List.take_add_one, ec]; rfl
        simp only [gName]
        refine ⟨_, rfl, _, rfl, u, _, rfl, .inr (SqT.of hu), rfl, flat_strs c, _, rfl, ?_⟩
        simp only [Bool.false_eq_true, if_false]
        rw [inV_str]
        by_cases hz : z ∈ c
        · rw [decide_eq_true hz]
          refine iteT ⟨_, rfl, kR2 _ _ ⟨rfl, by simp; omega, ⟨fun e => by simp at e, fun q => ?_⟩⟩⟩
          exact absurd hz (q c (by rw [et]; exact List.mem_append_right _ (List.mem_singleton.mpr rfl)))
        · rw [decide_eq_false hz]
          refine iteF (kR2 _ _ ⟨rfl, Nat.le_succ_of_le lv, no.trans ?_⟩)
          rw [et]
          exact ⟨fun q c hc => (List.mem_append.mp hc).elim (q c) fun e => by rw [List.mem_singleton.mp e]; exact hz, fun q c hc => q c (List.mem_append_left _ hc)⟩
      · rintro vs H6 ⟨rfl, lv, no⟩ D1 hD1
        rw [lu, List.take_length] at no
        have t1 := same_upd (o := .lst vs) hD1
        have q1 := upd_same (H := H6) (a := D1) (o := .lst vs)
        generalize upd H6 D1 (.lst vs) = H7 at t1 q1 ⊢
        refine ⟨(by decide), fun D2 hD2 => ?_⟩
        have t2 := t1.trans (same_upd (o := .lst []) hD2)
        refine ⟨D1, D2, vs, rfl, rfl, SqL.of (same_upd hD2 _ _ q1), SqL.of upd_same, _, rfl, ?_⟩
        generalize upd H7 D2 (.lst []) = H8 at t2 ⊢
        simp only [if_true]
        by_cases hv : vs = []
        · have p : ¬ ∃ c ∈ cs, z ∈ c := fun ⟨c, hc, q⟩ => no.mp hv c hc q
          rw [decide_eq_true hv]
          rw [if_neg p] at ef
          refine iteF (kR _ _ ⟨s5.trans t2, ?_⟩)
          rw [ef]; simp
        · have p : ∃ c ∈ cs, z ∈ c := by
            refine Classical.byContradiction fun q => hv (no.mpr fun c hc z' => q ⟨c, hc, z'⟩)
          rw [decide_eq_false hv]
          rw [if_pos p] at ef
          refine iteT ⟨_, rfl, kR _ _ ⟨s5.trans t2, ?_⟩⟩
          rw [ef]; simp
    · rintro ys H5 ⟨s5, rfl⟩ D3 hD3
      rw [List.length_map, List.take_length]
      have t3 := same_upd (o := .lst (((srt ns).filter fun z => decide (∃ c ∈ cs, z ∈ c)).map V.str)) hD3
      refine ⟨D3, _, rfl, .inl ⟨SqL.of upd_same, fun t ht => ?_⟩⟩
      have s6 := s1.trans (s5.trans t3)
      exact k t _ (s6.free ht) upd_same (s6.trans (same_upd ht))
end
end K23

set_option Elab.async false
set_option linter.all false
set_option maxRecDepth 100000
set_option maxHeartbeats 4000000
namespace K23
open PySem PySem.Spec PyProof.Rows L2
theorem srt_filter (ns : List Str) (P : Str → Bool) : srt (ns.filter P) = (srt ns).filter P :=
  (srt_of (((srt_perm ns).filter P)) ((srt_pw ns).filter P)).symm
open Classical in
theorem rch_eq (ns : List Str) (ps : List (Str × Str)) (a : Str) : rch ns ps a = (srt ns).filter fun z => decide (Rch ps a z) := by
  unfold rch
  rw [srt_filter]
def fC (a b : Str) (cs : List (List Str)) : List (List Str) := cs.filter fun c => decide (a ∈ c) && decide (b ∉ c)
theorem fC_mem {a b : Str} {cs : List (List Str)} {c : List Str} : c ∈ fC a b cs ↔ c ∈ cs ∧ a ∈ c ∧ b ∉ c := by
  unfold fC
  rw [List.mem_filter]
  simp
theorem IsCut.up {ns : List Str} {ps : List (Str × Str)} {c : List Str} (h : IsCut (srt ns) ps c) (hi : InP ns ps) {x y : Str} (hx : x ∈ c) (r : Rch ps x y) : y ∈ c := by
  obtain ⟨P, rfl, cl, _⟩ := h
  obtain ⟨h1, h2⟩ := List.mem_filter.mp hx
  have hy : y ∈ ns := r.isin hi (srt_mem.mp h1)
  exact List.mem_filter.mpr ⟨srt_mem.mpr hy, r.stays (S := fun z => P z = true) h2 cl⟩
section
variable {ns : List Str} {ps : List (Str × Str)} {cs : List (List Str)} {a b : Str}
theorem fC_none (g : GoodW ns ps) (hC : ∀ c, c ∈ cs ↔ IsCut (srt ns) ps c) (r : Rch ps a b) : fC a b cs = [] := by
  refine List.eq_nil_iff_forall_not_mem.mpr fun c hc => ?_
  obtain ⟨h1, h2, h3⟩ := fC_mem.mp hc
  exact h3 (((hC c).mp h1).up g.ins h2 r)
open Classical in
theorem low_in (g : GoodW ns ps) (hC : ∀ c, c ∈ cs ↔ IsCut (srt ns) ps c) (ha : a ∈ ns) (hb : b ∈ ns) (r : ¬ Rch ps a b) : rch ns ps a ∈ fC a b cs := by
  refine fC_mem.mpr ⟨(hC _).mpr ⟨fun z => decide (Rch ps a z), rch_eq ns ps a, fun p hp h => ?_, ⟨a, srt_mem.mpr ha, by simpa using Rch.here a⟩, ⟨b, srt_mem.mpr hb, by simpa using r⟩⟩, rch_mem.mpr ⟨ha, .here _⟩, fun h => r (rch_mem.mp h).2⟩
  have h' : Rch ps a p.1 := by simpa using h
  simpa using h'.on hp
open Classical in
theorem high_mem {z : Str} : z ∈ high ns ps b ↔ z ∈ ns ∧ ¬ Rch ps z b := by
  unfold high
  rw [List.mem_filter, srt_mem]
  simp
open Classical in
theorem high_in (g : GoodW ns ps) (hC : ∀ c, c ∈ cs ↔ IsCut (srt ns) ps c) (ha : a ∈ ns) (hb : b ∈ ns) (r : ¬ Rch ps a b) : high ns ps b ∈ fC a b cs := by
  refine fC_mem.mpr ⟨(hC _).mpr ⟨fun z => decide (¬ Rch ps z b), rfl, fun p hp h => ?_, ⟨a, srt_mem.mpr ha, by simpa using r⟩, ⟨b, srt_mem.mpr hb, by simpa using Rch.here b⟩⟩, high_mem.mpr ⟨ha, r⟩, fun h => (high_mem.mp h).2 (.here _)⟩
  have h' : ¬ Rch ps p.1 b := by simpa using h
  have h2 : ¬ Rch ps p.2 b := fun q => h' ((Rch.one (show (p.1, p.2) ∈ ps from hp)).trans q)
  simpa using h2
open Classical in
theorem all_low (g : GoodW ns ps) (hC : ∀ c, c ∈ cs ↔ IsCut (srt ns) ps c) (ha : a ∈ ns) (hb : b ∈ ns) (r : ¬ Rch ps a b) : allHave ns (fC a b cs) = rch ns ps a := by
  rw [rch_eq]
  unfold allHave
  refine List.filter_congr fun z hz => ?_
  rw [Bool.eq_iff_iff, decide_eq_true_iff, decide_eq_true_iff]
  constructor
  · intro h
    exact (rch_mem.mp (h _ (low_in g hC ha hb r))).2
  · intro h c hc
    obtain ⟨h1, h2, _⟩ := fC_mem.mp hc
    exact ((hC c).mp h1).up g.ins h2 h
open Classical in
theorem any_high (g : GoodW ns ps) (hC : ∀ c, c ∈ cs ↔ IsCut (srt ns) ps c) (ha : a ∈ ns) (hb : b ∈ ns) (r : ¬ Rch ps a b) : anyHas ns (fC a b cs) = high ns ps b := by
  unfold anyHas high
  refine List.filter_congr fun z hz => ?_
  rw [Bool.eq_iff_iff, decide_eq_true_iff, decide_eq_true_iff]
  constructor
  · rintro ⟨c, hc, h⟩ q
    obtain ⟨h1, _, h3⟩ := fC_mem.mp hc
    exact h3 (((hC c).mp h1).up g.ins h q)
  · intro h
    exact ⟨_, high_in g hC ha hb r, high_mem.mpr ⟨srt_mem.mp hz, h⟩⟩
theorem fC_take {j : Nat} {c : List Str} (ec : cs[j]? = some c) : fC a b (cs.take (j + 1)) = fC a b (cs.take j) ++ (if a ∈ c ∧ b ∉ c then [c] else []) := by
  unfold fC
  rw [List.take_add_one, ec, List.filter_append]
  congr 1
  show List.filter _ [c] = _
  rw [List.filter_cons]
  by_cases h1 : a ∈ c <;> by_cases h2 : b ∈ c <;> simp [h1, h2]
end
end K23

set_option Elab.async false
set_option linter.all false
set_option maxRecDepth 100000
set_option maxHeartbeats 4000000
namespace K23
open PySem PySem.Spec PyProof.Rows L2
abbrev sPair : Stmt := top 40 -- _law_pair_right
abbrev sTieR : Stmt := top 41 -- _law_tie_right
/-- the defs of the law that a pair is held against -/
structure Ld (K : PySem.W.Frag) (mg : Str → Option Value) (fLe fGr fLo fAh fAn fIs : Addr) (fdLe fdGr fdLo fdAh fdAn fdIs : FuncData) : Prop where
  le : Df K mg "least" sLeast ["web", "one", "other"] fLe fdLe
  gr : Df K mg "greatest" sGreatest ["web", "one", "other"] fGr fdGr
  lo : Df K mg "least_of" sLeastOf ["web", "k"] fLo fdLo
  ah : Df K mg "_law_all_have" sAllHave ["_law_names_here", "_law_some"] fAh fdAh
  an : Df K mg "_law_any_has" sAnyHas ["_law_names_here", "_law_some"] fAn fdAn
  is : Df K mg "_law_is" sIs ["_law_found", "_law_due"] fIs fdIs
/-- what a web's law stands on -/
structure Web (K : PySem.W.Frag) (C x la lb : Addr) (ns : List Str) (ps : List (Str × Str)) (ts : List Addr) (H : Hp) : Prop where
  W : WebObj C H x ns ps
  L : Lists H la lb ns ps ts
theorem Web.same {K : PySem.W.Frag} {C x la lb : Addr} {ns : List Str} {ps : List (Str × Str)} {ts : List Addr} {H H' : Hp} (h : Web K C x la lb ns ps ts H) (s : Same H H') : Web K C x la lb ns ps ts H' := ⟨h.W.same s, h.L.same s⟩
theorem Web.good {K : PySem.W.Frag} {C x la lb : Addr} {ns : List Str} {ps : List (Str × Str)} {ts : List Addr} {H : Hp} (h : Web K C x la lb ns ps ts H) : GoodW ns ps := ⟨h.L.good, h.L.ins, h.L.few⟩
section
variable {P : Program} {w : World} {K : PySem.W.Frag} {mg : Str → Option Value} {base : Heap}
variable {C E1 E2 fP fS fT fW fA fC' fL fSp fRe fTu fRs : Addr} {fdP fdS fdT fdW fdA fdC fdL fdSp fdRe fdTu fdRs : FuncData}
variable {fLe fGr fLo fAh fAn fIs : Addr} {fdLe fdGr fdLo fdAh fdAn fdIs : FuncData}
/-- the loop that takes the cuts with a, without b -/
theorem lc_some {l : Addr} {us : List Addr} {cs : List (List Str)} {H : Hp} {Q : VK} {σ : L2.St} {fr : List Nat} {o : Str} {tt : TT} {a b : Str} (Cu : CutsAt K H l us cs)
    (ht : ∀ (u : Addr) (c : List Str) (k : Bool → Hp → Prop), H u = some (.tup (c.map V.str)) → k (decide (a ∈ c) && decide (b ∉ c)) H → tt ((cSt [o] fr σ).set 0 (some (.ref u))) H k)
    (k : ∀ (l2 : Addr) (us2 : List Addr) (H' : Hp), H l2 = none → CutsAt K H' l2 us2 (fC a b cs) → Same H H' → Q (.ref l2) H') :
    lcLoop [o] fr (gName 0) tt (tVar 0) σ Q (Itl K l) H := by
  have lu : (us.map V.ref).length = cs.length := by rw [List.length_map, Cu.hT.1]
  refine lc_list (K := K) (xs := us.map V.ref) (fun j ys H5 => H5 = H ∧ ∃ vs : List Addr, ys = vs.map V.ref ∧ TupsAt H vs (fC a b (cs.take j))) ⟨rfl, [], rfl, rfl, (fun i t c e => by simp at e)⟩ ?_ ?_ ?_ ?_
  · rintro j ys H5 hj ⟨_, vs, rfl, hv⟩
    rw [List.length_map, hv.1]
    refine Nat.le_trans (List.length_filter_le _ _) ?_
    rw [List.length_take]
    exact Nat.le_trans (Nat.min_le_right _ _) (Nat.le_trans Cu.few (by decide))
  · rintro j ys H5 _ ⟨rfl, _⟩
    exact SqL.of Cu.hl
  · rintro j y ys H5 R hy ⟨rfl, vs, rfl, hv⟩ kR
    rw [List.getElem?_map] at hy
    obtain ⟨u, eu, rfl⟩ := Option.map_eq_some_iff.mp hy
    obtain ⟨c, ec, hu⟩ := Cu.hT.get eu
    have et := fC_take (a := a) (b := b) ec
    simp only [gName]
    refine ht u c _ hu ?_
    by_cases h : a ∈ c ∧ b ∉ c
    · rw [if_pos h] at et
      rw [decide_eq_true h.1, decide_eq_true h.2]
      refine iteT ⟨.ref u, ?_, kR _ _ ⟨rfl, vs ++ [u], by simp, ?_⟩⟩
      · simp [cSt]
      · rw [et]; exact hv.snoc hu
    · rw [if_neg h, List.append_nil] at et
      have e : (decide (a ∈ c) && decide (b ∉ c)) = false := by
        by_cases h1 : a ∈ c
        · have : b ∈ c := Classical.byContradiction fun q => h ⟨h1, q⟩
          simp [h1, this]
        · simp [h1]
      rw [e]
      refine iteF (kR _ _ ⟨rfl, vs, rfl, ?_⟩)
      rw [et]; exact hv
  · rintro ys H5 ⟨rfl, vs, rfl, hv⟩ D hD
    rw [lu, List.take_length] at hv
    refine k D vs _ hD ⟨upd_same, hv.same (same_upd hD), ?_⟩ (same_upd hD)
    exact Nat.le_trans (List.length_filter_le _ _) Cu.few
def spPair (C : Addr) : Sp := fun vs H Q _ => ∃ (x la lb lc : Addr) (ns : List Str) (ps : List (Str × Str)) (ts us : List Addr) (cs : List (List Str)) (a b : Str), vs = [.ref x, .ref la, .ref lc, .str a, .str b] ∧ Web K C x la lb ns ps ts H ∧ CutsAt K H lc us cs ∧ (∀ c, c ∈ cs ↔ IsCut (srt ns) ps c) ∧ a ∈ ns ∧ b ∈ ns ∧ ∀ H', Same H H' → Q (.bl true) H'
abbrev nPa : List Str := ["_law_web_here", "_law_names_here", "_law_cuts_here", "_law_one", "_law_other", "_law_some", "_law_low", "_law_high"]
theorem scPa : FnScope nPa ["_law_web_here", "_law_names_here", "_law_cuts_here", "_law_one", "_law_other"] (defScope sPair) := ⟨rfl, rfl, rfl, by decide +kernel, rfl, by decide +kernel, by decide +kernel⟩
theorem ok_pair {f : Addr} {fd : FuncData} (F : Fun K "_law_pair_right" "_law_pair_right" sPair f fd) (D : Rd K mg C E1 E2 fP fS fT fW fA fC' fL fSp fRe fTu fRs fdP fdS fdT fdW fdA fdC fdL fdSp fdRe fdTu fdRs) (M : Ld K mg fLe fGr fLo fAh fAn fIs fdLe fdGr fdLo fdAh fdAn fdIs) (T : Glb mg) :
    FnOk P w K mg base CX0 5 f fd ["_law_web_here", "_law_names_here", "_law_cuts_here", "_law_one", "_law_other"] (spPair (K := K) C) := by
  have GL : FnOk P w K mg base CX0 4 fLe fdLe ["web", "one", "other"] (spLeast C) := ok_least M.le.fn D T
  have GG : FnOk P w K mg base CX0 4 fGr fdGr ["web", "one", "other"] (spGreatest C) := ok_greatest M.gr.fn D T
  have GA : FnOk P w K mg base CX0 1 fAh fdAh ["_law_names_here", "_law_some"] (spAllHave (K := K)) := ok_allHave M.ah.fn T
  have GN : FnOk P w K mg base CX0 1 fAn fdAn ["_law_names_here", "_law_some"] (spAnyHas (K := K)) := ok_anyHas M.an.fn T
  have GI : FnOk P w K mg base CX0 1 fIs fdIs ["_law_found", "_law_due"] spIs := ok_is M.is.fn T
  refine F.ok scPa (fun vs H Q E h => ?_) (fun cdv A outer s H vs Q E hr h => ?_)
  · obtain ⟨x, la, lb, lc, ns, ps, ts, us, cs, a, b, rfl, _⟩ := h
    rfl
  · obtain ⟨x, la, lb, lc, ns, ps, ts, us, cs, a, b, rfl, W, Cu, hC, ha, hb, k⟩ := h
    have h1 := hr.mono (j := 1) (by decide)
    refine ⟨_, pss_cons (ps_setL (i := 5) ["_law_cut"] [3, 4] scPa.nd rfl rfl rfl (compSc (osc := (defScope sPair).names) (N := nPa) rfl rfl (by decide +kernel)) (gk_name (by decide)) (pi_list (pv 2))
          (fun _ _ _ => pg_name (i := 0) (show (["_law_cut", "_law_one", "_law_other"] : List Str).Nodup by decide +kernel) rfl (Or.inl rfl))
          (fun _ _ _ => pifs_one (PW.pt (pw_and (pt_cmpR (r := rIn K false) op_in_seq (pv 1) (pv 0) rfl) (pw_and1 (pt_cmpR (r := rIn K true) op_notIn_seq (pv 2) (pv 0) rfl)))))
          (fun _ _ _ => pv 0))
      (pss_cons (ps_if (pt_cmpR (op_eq_nil (low 0 hr)) (pv 5) (pe_lst pa_nil) (nomark _)) (pss_one (ps_ret (pe_and (pe_cmpR op_isN (pe_call GL hr rfl M.le.mgf M.le.fn.kp M.le.b .nil pass0 (pa_cons (pv 0) (pa_cons (pv 3) (pa_cons (pv 4) pa_nil)))) pe_non (nomark _))
          (pe_one (pe_cmpR op_isN (pe_call GG hr rfl M.gr.mgf M.gr.fn.kp M.gr.b .nil pass0 (pa_cons (pv 0) (pa_cons (pv 3) (pa_cons (pv 4) pa_nil)))) pe_non (nomark _)))))) pss_nil)
      (pss_cons (ps_par rfl scPa.nd rfl rfl (i := 6) (j := 7) (by decide) rfl rfl (pa_cons (pe_call GA h1 rfl M.ah.mgf M.ah.fn.kp M.ah.b .nil pass0 (pa_cons (pv 1) (pa_cons (pv 5) pa_nil))) (pa_cons (pe_call GN h1 rfl M.an.mgf M.an.fn.kp M.an.b .nil pass0 (pa_cons (pv 1) (pa_cons (pv 5) pa_nil))) pa_nil)) rfl)
      (pss_cons (ps_if (PW.pt (pw_or (pt_cmpR (op_notIn_tups (low 0 hr)) (pv 6) (pv 5) rfl) (pw_or1 (pt_cmpR (op_notIn_tups (low 0 hr)) (pv 7) (pv 5) rfl)))) (pss_one (ps_ret pe_bl)) pss_nil)
      (pss_one (ps_ret (pe_and (pe_call GI h1 rfl M.is.mgf M.is.fn.kp M.is.b .nil pass0 (pa_cons (pe_call GL hr rfl M.le.mgf M.le.fn.kp M.le.b .nil pass0 (pa_cons (pv 0) (pa_cons (pv 3) (pa_cons (pv 4) pa_nil)))) (pa_cons (pv 6) pa_nil)))
        (pe_one (pe_call GI h1 rfl M.is.mgf M.is.fn.kp M.is.b .nil pass0 (pa_cons (pe_call GG hr rfl M.gr.mgf M.gr.fn.kp M.gr.b .nil pass0 (pa_cons (pv 0) (pa_cons (pv 3) (pa_cons (pv 4) pa_nil)))) (pa_cons (pv 7) pa_nil)))))))))), ?_⟩
    have g := W.good
    refine ⟨_, rfl, lc, rfl, ⟨_, SqL.of Cu.hl⟩, lc_some (a := a) (b := b) Cu (fun u c k2 hu hk => ?_) (fun l2 us2 H1 hl2 C1 s1 => ?_)⟩
    · refine ⟨_, rfl, _, rfl, u, _, rfl, .inr (SqT.of hu), rfl, flat_strs c, _, rfl, ?_⟩
      simp only [Bool.false_eq_true, if_false]
      rw [inV_str]
      by_cases h : a ∈ c
      · rw [decide_eq_true h] at hk ⊢
        refine iteT ⟨_, rfl, _, rfl, u, _, rfl, .inr (SqT.of hu), rfl, flat_strs c, _, rfl, ?_⟩
        simp only [if_true]
        rw [inV_str]
        by_cases h2 : b ∈ c
        · rw [decide_eq_true h2]
          rw [decide_eq_false (show ¬ b ∉ c from fun q => q h2)] at hk
          exact hk
        · rw [decide_eq_false h2]
          rw [decide_eq_true h2] at hk
          exact hk
      · rw [decide_eq_false h] at hk ⊢
        exact iteF hk
    refine ⟨_, rfl, (by decide), fun D2 hD2 => ?_⟩
    have s2 := s1.trans (same_upd (o := .lst []) hD2)
    have C2 := C1.same (same_upd (o := .lst []) hD2)
    refine ⟨l2, D2, _, rfl, rfl, SqL.of C2.hl, SqL.of upd_same, _, rfl, ?_⟩
    simp only [Bool.false_eq_true, if_false]
    generalize upd H1 D2 (.lst []) = H2 at s2 C2 ⊢
    have W2 := W.same s2
    by_cases r : Rch ps a b
    · have e0 := fC_none g hC r
      have ez : us2.map V.ref = [] := by
        have := C1.hT.1
        rw [e0] at this
        rw [List.eq_nil_of_length_eq_zero this]; rfl
      rw [decide_eq_true ez]
      refine iteT ⟨_, rfl, _, rfl, _, rfl, x, ns, ps, a, b, rfl, W2.W, g, ha, hb, fun v H3 an s3 => ?_⟩
      rcases an with ⟨_, rfl⟩ | ⟨q, _⟩
      · refine ⟨rfl, _, rfl, ?_⟩
        rw [decide_eq_true (rfl : V.non = V.non)]
        refine iteT ⟨_, rfl, _, rfl, _, rfl, x, ns, ps, a, b, rfl, (W2.same s3).W, g, ha, hb, fun v H4 an s4 => ?_⟩
        rcases an with ⟨_, rfl⟩ | ⟨q, _⟩
        · refine ⟨rfl, ?_⟩
          rw [decide_eq_true (rfl : V.non = V.non)]
          exact k _ (s2.trans (s3.trans s4))
        · exact absurd r q
      · exact absurd r q
    · have li := low_in g hC ha hb r
      have hi := high_in g hC ha hb r
      have ez : us2.map V.ref ≠ [] := by
        intro e
        have := C1.hT.1
        rw [List.map_eq_nil_iff.mp e] at this
        rw [List.eq_nil_of_length_eq_zero this.symm] at li
        cases li
      rw [decide_eq_false ez]
      refine iteF ?_
      refine ⟨_, rfl, _, rfl, la, l2, ns, us2, _, rfl, W2.L.ha, g.good.few, C2, fun t1 H3 n1 q1 s3 => ?_⟩
      rw [all_low g hC ha hb r] at q1
      have W3 := W2.same s3
      have C3 := C2.same s3
      refine ⟨_, rfl, _, rfl, la, l2, ns, us2, _, rfl, W3.L.ha, g.good.few, C3, fun t2 H4 n2 q2 s4 => ?_⟩
      rw [any_high g hC ha hb r] at q2
      have W4 := W3.same s4
      have C4 := C3.same s4
      have q1' := s4 _ _ q1
      refine ⟨_, _, rfl, ?_⟩
      refine ⟨_, rfl, _, rfl, t1, l2, _, us2, _, rfl, rfl, q1', SqL.of C4.hl, C4.hT, _, rfl, ?_⟩
      simp only [if_true]
      rw [decide_eq_true li]
      refine iteF ⟨_, rfl, _, rfl, t2, l2, _, us2, _, rfl, rfl, q2, SqL.of C4.hl, C4.hT, _, rfl, ?_⟩
      simp only [if_true]
      rw [decide_eq_true hi]
      refine iteF ⟨_, rfl, _, rfl, _, rfl, x, ns, ps, a, b, rfl, W4.W, g, ha, hb, fun v H5 an s5 => ?_⟩
      rcases an with ⟨q, _⟩ | ⟨_, t, rfl, ht⟩
      · exact absurd q r
      refine ⟨_, rfl, .ref t, _, rfl, .inr ⟨t, t1, _, rfl, rfl, ht, s5 _ _ q1'⟩, _, rfl, ?_⟩
      refine iteT ⟨_, rfl, _, rfl, _, rfl, x, ns, ps, a, b, rfl, (W4.same s5).W, g, ha, hb, fun v H6 an s6 => ?_⟩
      rcases an with ⟨q, _⟩ | ⟨_, t', rfl, ht'⟩
      · exact absurd q r
      refine ⟨_, rfl, .ref t', _, rfl, .inr ⟨t', t2, _, rfl, rfl, ht', s6 _ _ (s5 _ _ q2)⟩, ?_⟩
      exact k _ (s2.trans (s3.trans (s4.trans (s5.trans s6))))
/-! ### a tie -/
def spTieR (C : Addr) : Sp := fun vs H Q _ => ∃ (x la lb lc : Addr) (ns : List Str) (ps : List (Str × Str)) (ts us : List Addr) (cs : List (List Str)) (i : Nat), vs = [.ref x, .ref la, .ref lb, .ref lc, .int i] ∧ Web K C x la lb ns ps ts H ∧ CutsAt K H lc us cs ∧ (∀ c, c ∈ cs ↔ IsCut (srt ns) ps c) ∧ i < ps.length ∧ ∀ H', Same H H' → Q (.bl true) H'
abbrev nTr : List Str := ["_law_web_here", "_law_names_here", "_law_ties", "_law_cuts_here", "_law_k", "_law_some", "_law_due"]
theorem scTr : FnScope nTr ["_law_web_here", "_law_names_here", "_law_ties", "_law_cuts_here", "_law_k"] (defScope sTieR) := ⟨rfl, rfl, rfl, by decide +kernel, rfl, by decide +kernel, by decide +kernel⟩
theorem ok_tieR {f : Addr} {fd : FuncData} (F : Fun K "_law_tie_right" "_law_tie_right" sTieR f fd) (D : Rd K mg C E1 E2 fP fS fT fW fA fC' fL fSp fRe fTu fRs fdP fdS fdT fdW fdA fdC fdL fdSp fdRe fdTu fdRs) (M : Ld K mg fLe fGr fLo fAh fAn fIs fdLe fdGr fdLo fdAh fdAn fdIs) (T : Glb mg) :
    FnOk P w K mg base CX0 6 f fd ["_law_web_here", "_law_names_here", "_law_ties", "_law_cuts_here", "_law_k"] (spTieR (K := K) C) := by
  have GO : FnOk P w K mg base CX0 5 fLo fdLo ["web", "k"] (spLeastOf C) := ok_leastOf M.lo.fn D M.le T
  have GA : FnOk P w K mg base CX0 1 fAh fdAh ["_law_names_here", "_law_some"] (spAllHave (K := K)) := ok_allHave M.ah.fn T
  have GI : FnOk P w K mg base CX0 1 fIs fdIs ["_law_found", "_law_due"] spIs := ok_is M.is.fn T
  refine F.ok scTr (fun vs H Q E h => ?_) (fun cdv A outer s H vs Q E hr h => ?_)
  · obtain ⟨x, la, lb, lc, ns, ps, ts, us, cs, i, rfl, _⟩ := h
    rfl
  · obtain ⟨x, la, lb, lc, ns, ps, ts, us, cs, i, rfl, W, Cu, hC, hi, k⟩ := h
    have h1 := hr.mono (j := 1) (by decide)
    refine ⟨_, pss_cons (ps_setL (i := 5) ["_law_cut"] [2, 4] scTr.nd rfl rfl rfl (compSc (osc := (defScope sTieR).names) (N := nTr) rfl rfl (by decide +kernel)) (gk_name (by decide)) (pi_list (pv 3))
          (fun _ _ _ => pg_name (i := 0) (show (["_law_cut", "_law_ties", "_law_k"] : List Str).Nodup by decide +kernel) rfl (Or.inl rfl))
          (fun _ _ _ => pifs_one (PW.pt (pw_and (pt_cmpR (r := rIn K true) op_notIn_seq (pe_ix (r := rIxT K) ix_tup (pe_ix (r := rIxL K) ix_list (pv 1) (pv 2) (fun _ _ => rfl)) pe_int (fun _ _ => rfl)) (pv 0) rfl) (pw_and1 (pt_cmpR (r := rIn K false) op_in_seq (pe_ix (r := rIxT K) ix_tup (pe_ix (r := rIxL K) ix_list (pv 1) (pv 2) (fun _ _ => rfl)) pe_int (fun _ _ => rfl)) (pv 0) rfl)))))
          (fun _ _ _ => pv 0))
      (pss_cons (ps_set (i := 6) scTr.nd rfl (Or.inl rfl) pe_non)
      (pss_cons (ps_if (pt_cmpR (op_ne_nil (low 0 hr)) (pv 5) (pe_lst pa_nil) (nomark _)) (pss_one (ps_set (i := 6) scTr.nd rfl (Or.inl rfl) (pe_call GA h1 rfl M.ah.mgf M.ah.fn.kp M.ah.b .nil pass0 (pa_cons (pv 1) (pa_cons (pv 5) pa_nil))))) pss_nil)
      (pss_one (ps_ret (pe_call GI h1 rfl M.is.mgf M.is.fn.kp M.is.b .nil pass0 (pa_cons (pe_call GO hr rfl M.lo.mgf M.lo.fn.kp M.lo.b .nil pass0 (pa_cons (pv 0) (pa_cons (pv 4) pa_nil))) (pa_cons (pv 6) pa_nil))))))), ?_⟩
    have g := W.good
    have hit : i < ts.length := by rw [W.L.hT.len]; exact hi
    obtain ⟨p, ep, ht⟩ := W.L.hT.get (List.getElem?_eq_getElem hit)
    have hp := g.ins p (List.mem_of_getElem? ep)
    have at1 : atI (ts.map V.ref) (i : Int) = some (.ref ts[i]) := atI_nat (j := i) (by rw [List.getElem?_map, List.getElem?_eq_getElem hit]; rfl)
    refine ⟨_, rfl, lc, rfl, ⟨_, SqL.of Cu.hl⟩, lc_some (a := p.2) (b := p.1) Cu (fun u c k2 hu hk => ?_) (fun l2 us2 H1 hl2 C1 s1 => ?_)⟩
    · refine ⟨_, rfl, _, rfl, lb, _, _, _, rfl, rfl, SqL.of W.L.hb, at1, ts[i], _, _, _, rfl, rfl, SqT.of ht, atI_nat (j := 0) rfl, _, rfl, u, _, rfl, .inr (SqT.of hu), rfl, flat_strs c, _, rfl, ?_⟩
      simp only [if_true]
      rw [inV_str]
      by_cases h : p.1 ∈ c
      · rw [decide_eq_true h]
        rw [decide_eq_false (show ¬ p.1 ∉ c from fun q => q h), Bool.and_false] at hk
        exact iteF hk
      · rw [decide_eq_false h]
        rw [decide_eq_true h, Bool.and_true] at hk
        refine iteT ⟨_, rfl, _, rfl, lb, _, _, _, rfl, rfl, SqL.of W.L.hb, at1, ts[i], _, _, _, rfl, rfl, SqT.of ht, atI_nat (j := 1) rfl, _, rfl, u, _, rfl, .inr (SqT.of hu), rfl, flat_strs c, _, rfl, ?_⟩
        simp only [Bool.false_eq_true, if_false]
        rw [inV_str]
        exact hk
    refine ⟨_, rfl, (by decide), fun D2 hD2 => ?_⟩
    have s2 := s1.trans (same_upd (o := .lst []) hD2)
    have C2 := C1.same (same_upd (o := .lst []) hD2)
    refine ⟨l2, D2, _, rfl, rfl, SqL.of C2.hl, SqL.of upd_same, _, rfl, ?_⟩
    simp only [if_true]
    generalize upd H1 D2 (.lst []) = H2 at s2 C2 ⊢
    have W2 := W.same s2
    by_cases r : Rch ps p.2 p.1
    · have e0 := fC_none g hC r
      have ez : us2.map V.ref = [] := by
        have := C1.hT.1
        rw [e0] at this
        rw [List.eq_nil_of_length_eq_zero this]; rfl
      rw [decide_eq_true ez]
      refine iteF ⟨_, rfl, _, rfl, x, ns, ps, i, p, rfl, W2.W, g, ep, fun v H3 an s3 => ?_⟩
      rcases an with ⟨_, rfl⟩ | ⟨q, _⟩
      · exact ⟨_, rfl, .non, .non, rfl, .inl ⟨rfl, rfl⟩, k _ (s2.trans s3)⟩
      · exact absurd r q
    · have li := low_in g hC hp.2 hp.1 r
      have ez : us2.map V.ref ≠ [] := by
        intro e
        have := C1.hT.1
        rw [List.map_eq_nil_iff.mp e] at this
        rw [List.eq_nil_of_length_eq_zero this.symm] at li
        cases li
      rw [decide_eq_false ez]
      refine iteT ⟨_, rfl, _, rfl, la, l2, ns, us2, _, rfl, W2.L.ha, g.good.few, C2, fun t1 H3 n1 q1 s3 => ?_⟩
      rw [all_low g hC hp.2 hp.1 r] at q1
      refine ⟨_, rfl, _, rfl, x, ns, ps, i, p, rfl, (W2.same s3).W, g, ep, fun v H4 an s4 => ?_⟩
      rcases an with ⟨q, _⟩ | ⟨_, t, rfl, ht'⟩
      · exact absurd q r
      exact ⟨_, rfl, .ref t, _, rfl, .inr ⟨t, t1, _, rfl, rfl, ht', s4 _ _ q1⟩, k _ (s2.trans (s3.trans s4))⟩
end
end K23

set_option Elab.async false
set_option linter.all false
set_option maxRecDepth 100000
set_option maxHeartbeats 4000000
namespace K23
open PySem PySem.Spec PyProof.Rows L2
abbrev sFlood : Stmt := top 43 -- _law_flood_right
abbrev sFloods : Stmt := top 44 -- _law_floods_right
theorem boot_dict' : bootBuiltins "dict" = some (.type "dict") := by decide +kernel
/-- the dict of what each place reaches -/
structure FarAt (H : Hp) (d : Addr) (ns : List Str) (ps : List (Str × Str)) (ls : List Addr) : Prop where
  hd : H d = some (.dK (tab ns ls))
  len : ls.length = ns.length
  at_ : ∀ (i : Nat) z l, ns[i]? = some z → ls[i]? = some l → ∃ zs : List Str, H l = some (.lst (zs.map V.str)) ∧ zs.Nodup ∧ ∀ y, y ∈ zs ↔ Rch ps z y
theorem FarAt.same {H H' : Hp} {d : Addr} {ns : List Str} {ps : List (Str × Str)} {ls : List Addr} (h : FarAt H d ns ps ls) (s : Same H H') : FarAt H' d ns ps ls := ⟨s _ _ h.hd, h.len, fun i z l e1 e2 => let ⟨zs, q, r⟩ := h.at_ i z l e1 e2; ⟨zs, s _ _ q, r⟩⟩
theorem FarAt.get {H : Hp} {d : Addr} {ns : List Str} {ps : List (Str × Str)} {ls : List Addr} (h : FarAt H d ns ps ls) (nd : ns.Nodup) {z : Str} (hz : z ∈ ns) : ∃ (l : Addr) (zs : List Str), DGet H d (.str z) (some (.ref l)) ∧ H l = some (.lst (zs.map V.str)) ∧ zs.Nodup ∧ ∀ y, y ∈ zs ↔ Rch ps z y := by
  obtain ⟨i, hi, e⟩ := List.getElem_of_mem hz
  have e1 : ns[i]? = some z := by rw [List.getElem?_eq_getElem hi, e]
  have hl : i < ls.length := by rw [h.len]; exact hi
  have e2 : ls[i]? = some ls[i] := List.getElem?_eq_getElem hl
  obtain ⟨zs, q, r1, r2⟩ := h.at_ i z _ e1 e2
  have dg := DGet.k (k := (Sum.inr z : Key)) h.hd
  rw [tab_at nd e1 e2] at dg
  exact ⟨ls[i], zs, dg, q, r1, r2⟩
section
variable {P : Program} {w : World} {K : PySem.W.Frag} {mg : Str → Option Value} {base : Heap}
variable {C E1 E2 fP fS fT fW fA fC' fL fSp fRe fTu fRs : Addr} {fdP fdS fdT fdW fdA fdC fdL fdSp fdRe fdTu fdRs : FuncData}
variable {fLe fGr fLo fAh fAn fIs : Addr} {fdLe fdGr fdLo fdAh fdAn fdIs : FuncData}
theorem far_small {ns : List Str} {ps : List (Str × Str)} {a : Str} {zs : List Str} (g : GoodW ns ps) (ha : a ∈ ns) (nd : zs.Nodup) (m : ∀ y, y ∈ zs ↔ Rch ps a y) : zs.length < 64 :=
  Nat.lt_of_le_of_lt (Nat.le_trans (pigeon zs ns nd fun z hz => ((m z).mp hz).isin g.ins ha) g.good.few) (by decide)
def spFlood (C : Addr) : Sp := fun vs H Q _ => ∃ (x la lb df dn : Addr) (ns : List Str) (ps : List (Str × Str)) (ts l1 l2 : List Addr) (a b : Str), vs = [.ref x, .ref la, .ref df, .ref dn, .str a, .str b] ∧ Web K C x la lb ns ps ts H ∧ FarAt H df ns ps l1 ∧ FarAt H dn ns (turn ps) l2 ∧ a ∈ ns ∧ b ∈ ns ∧ ∀ H', Same H H' → Q (.bl true) H'
abbrev nFl : List Str := ["_law_web_here", "_law_names_here", "_law_far_here", "_law_near", "_law_one", "_law_other", "_law_high"]
theorem scFl : FnScope nFl ["_law_web_here", "_law_names_here", "_law_far_here", "_law_near", "_law_one", "_law_other"] (defScope sFlood) := ⟨rfl, rfl, rfl, by decide +kernel, rfl, by decide +kernel, by decide +kernel⟩
theorem ok_flood {f : Addr} {fd : FuncData} (F : Fun K "_law_flood_right" "_law_flood_right" sFlood f fd) (D : Rd K mg C E1 E2 fP fS fT fW fA fC' fL fSp fRe fTu fRs fdP fdS fdT fdW fdA fdC fdL fdSp fdRe fdTu fdRs) (M : Ld K mg fLe fGr fLo fAh fAn fIs fdLe fdGr fdLo fdAh fdAn fdIs) (T : Glb mg) :
    FnOk P w K mg base CX0 5 f fd ["_law_web_here", "_law_names_here", "_law_far_here", "_law_near", "_law_one", "_law_other"] (spFlood (K := K) C) := by
  have GL : FnOk P w K mg base CX0 4 fLe fdLe ["web", "one", "other"] (spLeast C) := ok_least M.le.fn D T
  have GG : FnOk P w K mg base CX0 4 fGr fdGr ["web", "one", "other"] (spGreatest C) := ok_greatest M.gr.fn D T
  have GI : FnOk P w K mg base CX0 1 fIs fdIs ["_law_found", "_law_due"] spIs := ok_is M.is.fn T
  refine F.ok scFl (fun vs H Q E h => ?_) (fun cdv A outer s H vs Q E hr h => ?_)
  · obtain ⟨x, la, lb, df, dn, ns, ps, ts, l1, l2, a, b, rfl, _⟩ := h
    rfl
  · obtain ⟨x, la, lb, df, dn, ns, ps, ts, l1, l2, a, b, rfl, W, F1, F2, ha, hb, k⟩ := h
    have h1 := hr.mono (j := 1) (by decide)
    have hu : (A.deeper (envOfC "_law_flood_right" (defScope sFlood) s.heap.objs.size f cdv)).units + 1 < cLine := low 0 hr
    refine ⟨_, pss_cons (ps_if (pt_cmpR op_in_seq (pv 5) (pe_dget hu (pv 2) (pv 4) (fun _ _ => rfl)) rfl) (pss_one (ps_ret (pe_and (pe_cmpR op_isN (pe_call GL hr rfl M.le.mgf M.le.fn.kp M.le.b .nil pass0 (pa_cons (pv 0) (pa_cons (pv 4) (pa_cons (pv 5) pa_nil)))) pe_non (nomark _))
          (pe_one (pe_cmpR op_isN (pe_call GG hr rfl M.gr.mgf M.gr.fn.kp M.gr.b .nil pass0 (pa_cons (pv 0) (pa_cons (pv 4) (pa_cons (pv 5) pa_nil)))) pe_non (nomark _)))))) pss_nil)
      (pss_cons (ps_set (i := 6) scFl.nd rfl (Or.inl rfl) (pe_callTy call_tuple_of (by rfl) T.tuple PyProof.Rows.boot_tuple (pa_cons
          (pe_lc ["_law_name"] [3, 5] rfl (compSc (osc := (defScope sFlood).names) (N := nFl) rfl rfl (by decide +kernel)) (gk_name (by decide)) (pi_list (pe_callB call_sorted_txt (by rfl) T.sorted PyProof.Rows.boot_sorted (pa_cons (pv 1) pa_nil)))
            (fun _ _ _ => pg_name (i := 0) (show (["_law_name", "_law_near", "_law_other"] : List Str).Nodup by decide +kernel) rfl (Or.inl rfl)) (fun _ _ _ => pifs_one (pt_cmpR (r := rIn K true) op_notIn_seq (pv 0) (pe_dget hu (pv 1) (pv 2) (fun _ _ => rfl)) rfl))
            (fun _ _ _ => pv 0)) pa_nil)))
      (pss_one (ps_ret (pe_and (pe_call GI h1 rfl M.is.mgf M.is.fn.kp M.is.b .nil pass0 (pa_cons (pe_call GL hr rfl M.le.mgf M.le.fn.kp M.le.b .nil pass0 (pa_cons (pv 0) (pa_cons (pv 4) (pa_cons (pv 5) pa_nil))))
            (pa_cons (pe_callTy call_tuple_of (by rfl) T.tuple PyProof.Rows.boot_tuple (pa_cons (pe_callB call_sorted_txt (by rfl) T.sorted PyProof.Rows.boot_sorted (pa_cons (pe_dget hu (pv 2) (pv 4) (fun _ _ => rfl)) pa_nil)) pa_nil)) pa_nil)))
        (pe_one (pe_call GI h1 rfl M.is.mgf M.is.fn.kp M.is.b .nil pass0 (pa_cons (pe_call GG hr rfl M.gr.mgf M.gr.fn.kp M.gr.b .nil pass0 (pa_cons (pv 0) (pa_cons (pv 4) (pa_cons (pv 5) pa_nil)))) (pa_cons (pv 6) pa_nil)))))))), ?_⟩
    have g := W.good
    obtain ⟨la1, zs, dg, hz, nz, mz⟩ := F1.get g.good.nd ha
    obtain ⟨la2, ys2, dg2, hy2, ny2, my2⟩ := F2.get g.good.nd hb
    refine ⟨_, rfl, _, rfl, _, rfl, df, _, rfl, dg, la1, _, rfl, .inl (SqL.of hz), rfl, flat_strs zs, _, rfl, ?_⟩
    simp only [Bool.false_eq_true, if_false]
    rw [inV_str]
    by_cases r : Rch ps a b
    · rw [decide_eq_true ((mz b).mpr r)]
      refine iteT ⟨_, rfl, _, rfl, _, rfl, x, ns, ps, a, b, rfl, W.W, g, ha, hb, fun v H3 an s3 => ?_⟩
      rcases an with ⟨_, rfl⟩ | ⟨q, _⟩
      · refine ⟨rfl, _, rfl, ?_⟩
        rw [decide_eq_true (rfl : V.non = V.non)]
        refine iteT ⟨_, rfl, _, rfl, _, rfl, x, ns, ps, a, b, rfl, (W.same s3).W, g, ha, hb, fun v H4 an s4 => ?_⟩
        rcases an with ⟨_, rfl⟩ | ⟨q, _⟩
        · refine ⟨rfl, ?_⟩
          rw [decide_eq_true (rfl : V.non = V.non)]
          exact k _ (s3.trans s4)
        · exact absurd r q
      · exact absurd r q
    · rw [decide_eq_false (fun q => r ((mz b).mp q))]
      refine iteF ⟨_, rfl, la, ns, rfl, SqL.of W.L.ha, Nat.lt_of_le_of_lt g.good.few (by decide), fun pl hpl => ⟨pl, rfl, ⟨_, SqL.of upd_same⟩, ?_⟩⟩
      have s1 := same_upd (o := .lst ((srt ns).map V.str)) hpl
      have k1 := upd_same (H := H) (a := pl) (o := .lst ((srt ns).map V.str))
      generalize upd H pl (.lst ((srt ns).map V.str)) = H1 at s1 k1 ⊢
      obtain ⟨la3, ys3, dg3, hy3, ny3, my3⟩ := (F2.same s1).get g.good.nd hb
      refine lc_list (K := K) (xs := (srt ns).map V.str) (fun i ys H5 => H5 = H1 ∧ ys = (((srt ns).take i).filter fun z => decide (z ∉ ys3)).map V.str) ⟨rfl, rfl⟩ ?_ ?_ ?_ ?_
      · rintro i ys H5 hi ⟨_, rfl⟩
        rw [List.length_map]
        refine Nat.le_trans (List.length_filter_le _ _) ?_
        rw [List.length_take, srt_len]
        exact Nat.le_trans (Nat.min_le_right _ _) (Nat.le_trans g.good.few (by decide))
      · rintro i ys H5 _ ⟨rfl, _⟩
        exact SqL.of k1
      · rintro i y ys H5 R hy ⟨rfl, rfl⟩ kR
        rw [List.getElem?_map] at hy
        obtain ⟨z, ez, rfl⟩ := Option.map_eq_some_iff.mp hy
        simp only [gName]
        refine ⟨_, rfl, _, rfl, _, rfl, dn, _, rfl, dg3, la3, _, rfl, .inl (SqL.of hy3), rfl, flat_strs ys3, _, rfl, ?_⟩
        simp only [if_true]
        rw [inV_str]
        have ef : ((srt ns).take (i + 1)).filter (fun z => decide (z ∉ ys3)) = ((srt ns).take i).filter (fun z => decide (z ∉ ys3)) ++ (if z ∈ ys3 then [] else [z]) := by
          rw [List.take_add_one, ez, List.filter_append]
          by_cases h : z ∈ ys3 <;> simp [h]
        by_cases h : z ∈ ys3
        · rw [decide_eq_true h]
          refine iteF (kR _ _ ⟨rfl, ?_⟩)
          rw [ef, if_pos h, List.append_nil]
        · rw [decide_eq_false h]
          refine iteT ⟨_, rfl, kR _ _ ⟨rfl, ?_⟩⟩
          rw [ef, if_neg h]
          simp
      · rintro ys H5 ⟨rfl, rfl⟩ D1 hD1
        rw [List.length_map, List.take_length]
        have eh : (srt ns).filter (fun z => decide (z ∉ ys3)) = high ns ps b := by
          unfold high
          refine List.filter_congr fun z hz => ?_
          have := my3 z
          rw [rch_turn] at this
          by_cases q : Rch ps z b
          · simp [q, this.mpr q]
          · have q' : z ∉ ys3 := fun h => q (this.mp h)
            simp [q, q']
        rw [eh]
        refine ⟨D1, _, rfl, .inl ⟨SqL.of upd_same, fun t ht => ?_⟩⟩
        have s2 := s1.trans ((same_upd (o := .lst ((high ns ps b).map V.str)) hD1).trans (same_upd (o := .tup ((high ns ps b).map V.str)) ht))
        have q2 := upd_same (H := upd H5 D1 (.lst ((high ns ps b).map V.str))) (a := t) (o := .tup ((high ns ps b).map V.str))
        generalize upd (upd H5 D1 (.lst ((high ns ps b).map V.str))) t (.tup ((high ns ps b).map V.str)) = H2 at s2 q2 ⊢
        refine ⟨_, rfl, _, rfl, _, rfl, x, ns, ps, a, b, rfl, (W.same s2).W, g, ha, hb, fun v H3 an s3 => ?_⟩
        rcases an with ⟨q, _⟩ | ⟨_, t1, rfl, ht1⟩
        · exact absurd q r
        obtain ⟨la4, zs4, dg4, hz4, nz4, mz4⟩ := (F1.same (s2.trans s3)).get g.good.nd ha
        refine ⟨_, rfl, _, rfl, df, _, rfl, dg4, la4, zs4, rfl, SqL.of hz4, far_small g ha nz4 mz4, fun l4 hl4 => ?_⟩
        have e4 : srt zs4 = rch ns ps a := rch_of g.good.nd nz4 g.ins ha mz4
        rw [e4]
        refine ⟨l4, _, rfl, .inl ⟨SqL.of upd_same, fun t4 ht4 => ?_⟩⟩
        have s4 := (same_upd (o := .lst ((rch ns ps a).map V.str)) hl4).trans (same_upd (o := .tup ((rch ns ps a).map V.str)) ht4)
        refine ⟨.ref t1, _, rfl, .inr ⟨t1, t4, _, rfl, rfl, s4 _ _ ht1, upd_same⟩, _, rfl, ?_⟩
        generalize upd (upd H3 l4 (.lst ((rch ns ps a).map V.str))) t4 (.tup ((rch ns ps a).map V.str)) = H4 at s4 ⊢
        have s04 := s2.trans (s3.trans s4)
        refine iteT ⟨_, rfl, _, rfl, _, rfl, x, ns, ps, a, b, rfl, (W.same s04).W, g, ha, hb, fun v H6 an s6 => ?_⟩
        rcases an with ⟨q, _⟩ | ⟨_, t6, rfl, ht6⟩
        · exact absurd q r
        refine ⟨_, rfl, .ref t6, _, rfl, .inr ⟨t6, t, _, rfl, rfl, ht6, s6 _ _ (s4 _ _ (s3 _ _ q2))⟩, ?_⟩
        exact k _ (s04.trans s6)
end
end K23

set_option Elab.async false
set_option linter.all false
set_option maxRecDepth 100000
set_option maxHeartbeats 4000000
namespace K23
open PySem PySem.Spec PyProof.Rows L2
section
variable {P : Program} {w : World} {K : PySem.W.Frag} {mg : Str → Option Value} {base : Heap}
variable {C E1 E2 fP fS fT fW fA fC' fL fSp fRe fTu fRs : Addr} {fdP fdS fdT fdW fdA fdC fdL fdSp fdRe fdTu fdRs : FuncData}
variable {fLe fGr fLo fAh fAn fIs : Addr} {fdLe fdGr fdLo fdAh fdAn fdIs : FuncData}
/-- the pairs (place, list of what it reaches) that a comprehension has laid -/
structure FarL (H : Hp) (ts : List Addr) (ns : List Str) (ps : List (Str × Str)) (ls : List Addr) : Prop where
  l1 : ts.length = ns.length
  l2 : ls.length = ns.length
  tp : ∀ (i : Nat) t z a, ts[i]? = some t → ns[i]? = some z → ls[i]? = some a → H t = some (.tup [.str z, .ref a])
  at_ : ∀ (i : Nat) z l, ns[i]? = some z → ls[i]? = some l → ∃ zs : List Str, H l = some (.lst (zs.map V.str)) ∧ zs.Nodup ∧ ∀ y, y ∈ zs ↔ Rch ps z y
theorem FarL.same {H H' : Hp} {ts : List Addr} {ns : List Str} {ps : List (Str × Str)} {ls : List Addr} (h : FarL H ts ns ps ls) (s : Same H H') : FarL H' ts ns ps ls :=
  ⟨h.l1, h.l2, fun i t z a e1 e2 e3 => s _ _ (h.tp i t z a e1 e2 e3), fun i z l e1 e2 => let ⟨zs, q, r⟩ := h.at_ i z l e1 e2; ⟨zs, s _ _ q, r⟩⟩
theorem last_at {α : Type} {xs : List α} {x y : α} {i : Nat} (e : (xs ++ [x])[i]? = some y) : (i < xs.length ∧ xs[i]? = some y) ∨ (i = xs.length ∧ y = x) := by
  by_cases h : i < xs.length
  · rw [List.getElem?_append_left h] at e; exact .inl ⟨h, e⟩
  · rw [List.getElem?_append_right (by omega)] at e
    have hz : i - xs.length = 0 := by
      rcases Nat.eq_zero_or_pos (i - xs.length) with q | q
      · exact q
      · rw [List.getElem?_eq_none (by simp; omega)] at e; cases e
    rw [hz] at e
    exact .inr ⟨by omega, (Option.some.inj e).symm⟩
theorem FarL.snoc {H : Hp} {ts : List Addr} {ns : List Str} {ps : List (Str × Str)} {ls : List Addr} {t a : Addr} {z : Str} {zs : List Str} (h : FarL H ts ns ps ls) (ht : H t = some (.tup [.str z, .ref a])) (ha : H a = some (.lst (zs.map V.str))) (nd : zs.Nodup) (m : ∀ y, y ∈ zs ↔ Rch ps z y) : FarL H (ts ++ [t]) (ns ++ [z]) ps (ls ++ [a]) := by
  have l1 := h.l1
  have l2 := h.l2
  refine ⟨by simp [l1], by simp [l2], fun i t' z' a' e1 e2 e3 => ?_, fun i z' l' e1 e2 => ?_⟩
  · rcases last_at e1 with ⟨q1, q2⟩ | ⟨q1, rfl⟩ <;> rcases last_at e2 with ⟨r1, r2⟩ | ⟨r1, rfl⟩ <;> rcases last_at e3 with ⟨u1, u2⟩ | ⟨u1, rfl⟩ <;> first | exact h.tp i t' z' a' q2 r2 u2 | exact ht | omega
  · rcases last_at e1 with ⟨r1, r2⟩ | ⟨r1, rfl⟩ <;> rcases last_at e2 with ⟨u1, u2⟩ | ⟨u1, rfl⟩ <;> first | exact h.at_ i z' l' r2 u2 | exact ⟨zs, ha, nd, m⟩ | omega
def spFloods (C : Addr) : Sp := fun vs H Q _ => ∃ (x la lb : Addr) (ns : List Str) (ps : List (Str × Str)) (ts : List Addr), vs = [.ref x, .ref la, .ref lb] ∧ Web K C x la lb ns ps ts H ∧ ∀ H', Same H H' → Q (.bl true) H'
abbrev nFs : List Str := ["_law_web_here", "_law_names_here", "_law_ties", "_law_far_here", "_law_near", "_law_one", "_law_other", "_law_k", "_law_a", "_law_b"]
theorem scFs : FnScope nFs ["_law_web_here", "_law_names_here", "_law_ties"] (defScope sFloods) := ⟨rfl, rfl, rfl, by decide +kernel, rfl, by decide +kernel, by decide +kernel⟩
theorem ok_floods {f fFa fFl : Addr} {fd fdFa fdFl : FuncData} (F : Fun K "_law_floods_right" "_law_floods_right" sFloods f fd) (D : Rd K mg C E1 E2 fP fS fT fW fA fC' fL fSp fRe fTu fRs fdP fdS fdT fdW fdA fdC fdL fdSp fdRe fdTu fdRs) (M : Ld K mg fLe fGr fLo fAh fAn fIs fdLe fdGr fdLo fdAh fdAn fdIs)
    (DF : Df K mg "_law_far" sFar ["_law_ties", "_law_one"] fFa fdFa) (DR : Df K mg "_law_flood_right" sFlood ["_law_web_here", "_law_names_here", "_law_far_here", "_law_near", "_law_one", "_law_other"] fFl fdFl) (T : Glb mg) (hD : mg "dict" = none) (hE : mg "enumerate" = none) :
    FnOk P w K mg base CX0 6 f fd ["_law_web_here", "_law_names_here", "_law_ties"] (spFloods (K := K) C) := by
  have GF : FnOk P w K mg base CX0 1 fFa fdFa ["_law_ties", "_law_one"] spFar := ok_far DF.fn T
  have GR : FnOk P w K mg base CX0 5 fFl fdFl ["_law_web_here", "_law_names_here", "_law_far_here", "_law_near", "_law_one", "_law_other"] (spFlood (K := K) C) := ok_flood DR.fn D M T
  have GO : FnOk P w K mg base CX0 5 fLo fdLo ["web", "k"] (spLeastOf C) := ok_leastOf M.lo.fn D M.le T
  have GI : FnOk P w K mg base CX0 1 fIs fdIs ["_law_found", "_law_due"] spIs := ok_is M.is.fn T
  refine F.ok scFs (fun vs H Q E h => ?_) (fun cdv A outer s H vs Q E hr h => ?_)
  · obtain ⟨x, la, lb, ns, ps, ts, rfl, _⟩ := h
    rfl
  · obtain ⟨x, la, lb, ns, ps, ts, rfl, W, k⟩ := h
    have h1 := hr.mono (j := 1) (by decide)
    have hu : (A.deeper (envOfC "_law_floods_right" (defScope sFloods) s.heap.objs.size f cdv)).units + 1 < cLine := low 0 hr
    refine ⟨_, pss_cons (ps_set (i := 3) scFs.nd rfl (Or.inl rfl) (pe_callTy (call_dict_pairs rfl) (by rfl) hD boot_dict' (pa_cons
          (pe_lc ["_law_name"] [2] rfl (compSc (osc := (defScope sFloods).names) (N := nFs) rfl rfl (by decide +kernel)) (gk_name (by decide)) (pi_list (pv 1))
            (fun _ _ _ => pg_name (i := 0) (show (["_law_name", "_law_ties"] : List Str).Nodup by decide +kernel) rfl (Or.inl rfl)) (fun _ _ _ => pifs_nil)
            (fun _ _ _ => pe_tup (pa_cons (pv 0) (pa_cons (pe_call GF h1 rfl DF.mgf DF.fn.kp DF.b .nil pass0 (pa_cons (pv 1) (pa_cons (pv 0) pa_nil))) pa_nil)))) pa_nil)))
      (pss_cons (ps_set (i := 4) scFs.nd rfl (Or.inl rfl) (pe_callTy (call_dict_pairs rfl) (by rfl) hD boot_dict' (pa_cons
          (pe_lc ["_law_name"] [2] rfl (compSc (osc := (defScope sFloods).names) (N := nFs) rfl rfl (by decide +kernel)) (gk_name (by decide)) (pi_list (pv 1))
            (fun _ _ _ => pg_name (i := 0) (show (["_law_name", "_law_ties"] : List Str).Nodup by decide +kernel) rfl (Or.inl rfl)) (fun _ _ _ => pifs_nil)
            (fun _ _ _ => pe_tup (pa_cons (pv 0) (pa_cons (pe_call GF h1 rfl DF.mgf DF.fn.kp DF.b .nil pass0 (pa_cons
              (pe_lc ["_law_a", "_law_b"] [] rfl (compSc (osc := [(".0", .local), ("_law_name", .local), ("_law_far", .globalImplicit), ("_law_ties", .cell)]) (N := ["_law_name", "_law_ties"]) rfl rfl (by decide +kernel)) (gk_two (K := K) (k := 2) (by decide) (by decide)) (pi_listK (K := K) rfl (pv 1))
                (fun _ _ _ => pg_tup (n := 2) rfl (pgs_cons (pg_name (i := 0) (show (["_law_a", "_law_b"] : List Str).Nodup by decide +kernel) rfl (Or.inl rfl)) (pgs_cons (pg_name (i := 1) (show (["_law_a", "_law_b"] : List Str).Nodup by decide +kernel) rfl (Or.inl rfl)) pgs_nil))) (fun _ _ _ => pifs_nil)
                (fun _ _ _ => pe_tup (pa_cons (pv 1) (pa_cons (pv 0) pa_nil)))) (pa_cons (pv 0) pa_nil))) pa_nil)))) pa_nil)))
      (pss_cons (ps_for PassesOwn.never rfl (pi_list (pv 1)) (pg_name (i := 5) scFs.nd rfl (Or.inl rfl))
        (pss_one (ps_for PassesOwn.never rfl (pi_list (pv 1)) (pg_name (i := 6) scFs.nd rfl (Or.inl rfl))
          (pss_one (ps_if (pt_not (pt_val (pe_call GR hr rfl DR.mgf DR.fn.kp DR.b .nil pass0 (pa_cons (pv 0) (pa_cons (pv 1) (pa_cons (pv 3) (pa_cons (pv 4) (pa_cons (pv 5) (pa_cons (pv 6) pa_nil))))))) (fun _ => rfl))) (pss_one (ps_ret pe_bl)) pss_nil)))))
      (pss_cons (ps_for PassesOwn.never rfl (pi_enum rfl hE (pa_cons (pv 2) pa_nil))
          (pg_tup rfl (pgs_cons (pg_name (i := 7) scFs.nd rfl (Or.inl rfl)) (pgs_cons (pg_tup rfl (pgs_cons (pg_name (i := 8) scFs.nd rfl (Or.inl rfl)) (pgs_cons (pg_name (i := 9) scFs.nd rfl (Or.inl rfl)) pgs_nil))) pgs_nil)))
        (pss_one (ps_if (pt_not (pt_val (pe_call GI h1 rfl M.is.mgf M.is.fn.kp M.is.b .nil pass0 (pa_cons (pe_call GO hr rfl M.lo.mgf M.lo.fn.kp M.lo.b .nil pass0 (pa_cons (pv 0) (pa_cons (pv 7) pa_nil)))
            (pa_cons (pe_ifExp (pt_cmpR op_in_seq (pv 8) (pe_dget hu (pv 3) (pv 9) (fun _ _ => rfl)) rfl) pe_non (pe_callTy call_tuple_of (by rfl) T.tuple PyProof.Rows.boot_tuple (pa_cons (pe_callB call_sorted_txt (by rfl) T.sorted PyProof.Rows.boot_sorted (pa_cons (pe_dget hu (pv 3) (pv 9) (fun _ _ => rfl)) pa_nil)) pa_nil))) pa_nil))) (fun _ => rfl))) (pss_one (ps_ret pe_bl)) pss_nil)))
      (pss_one (ps_ret pe_bl))))), ?_⟩
    have g := W.good
    have few := g.good.few
    -- far
    refine ⟨_, rfl, la, rfl, ⟨_, SqL.of W.L.ha⟩, lc_list (K := K) (xs := ns.map V.str) (fun i ys H5 => Same H H5 ∧ ∃ us ls : List Addr, ys = us.map V.ref ∧ FarL H5 us (ns.take i) ps ls) ⟨Same.refl _, [], [], rfl, rfl, rfl, (fun i t z a e => by simp at e), fun i z l e => by simp at e⟩ ?_ ?_ ?_ ?_⟩
    · rintro i ys H5 hi ⟨_, us, ls, rfl, fl⟩
      rw [List.length_map, fl.l1, List.length_take]
      exact Nat.le_trans (Nat.min_le_right _ _) (Nat.le_trans few (by decide))
    · rintro i ys H5 _ ⟨s5, _⟩
      exact SqL.of (s5 _ _ W.L.ha)
    · rintro i y ys H5 R hy ⟨s5, us, ls, rfl, fl⟩ kR
      rw [List.getElem?_map] at hy
      obtain ⟨z, ez, rfl⟩ := Option.map_eq_some_iff.mp hy
      simp only [tYes, gName, if_true]
      have W5 := W.same s5
      refine ⟨_, rfl, _, rfl, _, rfl, lb, z, ns, ts, ps, rfl, W5.L.hb, W5.L.hT, g, List.mem_of_getElem? ez, fun l zs H6 nl hl nd m s6 => ?_⟩
      refine ⟨(by show 2 ≤ sizeLine; decide), fun t ht => ?_⟩
      have st := same_upd (o := .tup [.str z, .ref l]) ht
      refine kR _ _ ⟨s5.trans (s6.trans st), us ++ [t], ls ++ [l], by simp, ?_⟩
      rw [List.take_add_one, ez]
      exact FarL.snoc (fl.same (s6.trans st)) upd_same (st _ _ hl) nd m
    rintro ys H5 ⟨s5, us, ls, rfl, fl⟩ D1 hD1
    rw [List.length_map, List.take_length] at fl
    have t1 := same_upd (o := .lst (us.map V.ref)) hD1
    have fl1 := fl.same t1
    refine ⟨D1, us, ns, ls, rfl, upd_same, fl1.l1, fl1.l2, fl1.tp, g.good.nd, by omega, fun df hdf => ?_⟩
    have t2 := same_upd (o := .dK (tab ns ls)) hdf
    have s6 := s5.trans (t1.trans t2)
    have Fa1 : FarAt (upd (upd H5 D1 (.lst (us.map V.ref))) df (.dK (tab ns ls))) df ns ps ls := ⟨upd_same, fl1.l2, (fl1.same t2).at_⟩
    generalize upd (upd H5 D1 (.lst (us.map V.ref))) df (.dK (tab ns ls)) = H6 at s6 Fa1 ⊢
    clear t1 t2 fl1 fl
    have W6 := W.same s6
    -- near
    refine ⟨_, rfl, la, rfl, ⟨_, SqL.of W6.L.ha⟩, lc_list (K := K) (xs := ns.map V.str) (fun i ys H5 => Same H6 H5 ∧ ∃ us ls : List Addr, ys = us.map V.ref ∧ FarL H5 us (ns.take i) (turn ps) ls) ⟨Same.refl _, [], [], rfl, rfl, rfl, (fun i t z a e => by simp at e), fun i z l e => by simp at e⟩ ?_ ?_ ?_ ?_⟩
    · rintro i ys H5 hi ⟨_, us, ls, rfl, fl⟩
      rw [List.length_map, fl.l1, List.length_take]
      exact Nat.le_trans (Nat.min_le_right _ _) (Nat.le_trans few (by decide))
    · rintro i ys H5 _ ⟨s5, _⟩
      exact SqL.of (s5 _ _ W6.L.ha)
    · rintro i y ys H5 R hy ⟨s5, us, ls, rfl, fl⟩ kR
      rw [List.getElem?_map] at hy
      obtain ⟨z, ez, rfl⟩ := Option.map_eq_some_iff.mp hy
      simp only [tYes, gName, if_true]
      have W5 := W6.same s5
      refine ⟨_, rfl, _, rfl, lb, rfl, ⟨_, SqL.of W5.L.hb⟩, lc_turn W5.L.hb W5.L.hT (Nat.le_trans g.few (by decide)) (fun lt vs H7 nlt hlt hV s7 => ?_)⟩
      refine ⟨_, rfl, lt, z, ns, vs, turn ps, rfl, hlt, hV, g.turned, List.mem_of_getElem? ez, fun l zs H8 nl hl nd m s8 => ?_⟩
      refine ⟨(by show 2 ≤ sizeLine; decide), fun t ht => ?_⟩
      have st := same_upd (o := .tup [.str z, .ref l]) ht
      refine kR _ _ ⟨s5.trans (s7.trans (s8.trans st)), us ++ [t], ls ++ [l], by simp, ?_⟩
      rw [List.take_add_one, ez]
      exact FarL.snoc (fl.same (s7.trans (s8.trans st))) upd_same (st _ _ hl) nd m
    rintro ys H7 ⟨s7, us2, ls2, rfl, fl⟩ D2 hD2
    rw [List.length_map, List.take_length] at fl
    have t1 := same_upd (o := .lst (us2.map V.ref)) hD2
    have fl1 := fl.same t1
    refine ⟨D2, us2, ns, ls2, rfl, upd_same, fl1.l1, fl1.l2, fl1.tp, g.good.nd, by omega, fun dn hdn => ?_⟩
    have t2 := same_upd (o := .dK (tab ns ls2)) hdn
    have s8 := s7.trans (t1.trans t2)
    have Fa2 : FarAt (upd (upd H7 D2 (.lst (us2.map V.ref))) dn (.dK (tab ns ls2))) dn ns (turn ps) ls2 := ⟨upd_same, fl1.l2, (fl1.same t2).at_⟩
    generalize upd (upd H7 D2 (.lst (us2.map V.ref))) dn (.dK (tab ns ls2)) = H8 at s8 Fa2 ⊢
    clear t1 t2 fl1 fl
    have Fa1' := Fa1.same s8
    have s08 := s6.trans s8
    have W8 := W.same s08
    -- pairs
    refine ⟨_, rfl, la, rfl, ⟨_, SqL.of W8.L.ha⟩, ?_⟩
    refine for_list (K := K) (xs := ns.map V.str) (fun i σ H2 => ∃ v5 v6 v7 v8 v9 : Option V, σ = [some (.ref x), some (.ref la), some (.ref lb), some (.ref df), some (.ref dn), v5, v6, v7, v8, v9] ∧ Same H8 H2) ⟨_, _, _, _, _, rfl, Same.refl _⟩ ?_ ?_ ?_
    · rintro i σ H2 _ ⟨_, _, _, _, _, rfl, s2⟩
      exact SqL.of (s2 _ _ W8.L.ha)
    · rintro i y σ H2 hy ⟨v5, v6, v7, v8, v9, rfl, s2⟩
      rw [List.getElem?_map] at hy
      obtain ⟨a, ea, rfl⟩ := Option.map_eq_some_iff.mp hy
      refine ⟨_, rfl, la, rfl, ⟨_, SqL.of (s2 _ _ W8.L.ha)⟩, ?_⟩
      refine for_list (K := K) (xs := ns.map V.str) (fun j σ H3 => ∃ v6 v7 v8 v9 : Option V, σ = [some (.ref x), some (.ref la), some (.ref lb), some (.ref df), some (.ref dn), some (.str a), v6, v7, v8, v9] ∧ Same H8 H3) ⟨_, _, _, _, rfl, s2⟩ ?_ ?_ ?_
      · rintro j σ H3 _ ⟨_, _, _, _, rfl, s3⟩
        exact SqL.of (s3 _ _ W8.L.ha)
      · rintro j y σ H3 hy ⟨v6, v7, v8, v9, rfl, s3⟩
        rw [List.getElem?_map] at hy
        obtain ⟨b, eb, rfl⟩ := Option.map_eq_some_iff.mp hy
        refine ⟨_, rfl, _, rfl, _, rfl, _, rfl, _, rfl, _, rfl, x, la, lb, df, dn, ns, ps, ts, ls, ls2, a, b, rfl, W8.same s3, Fa1'.same s3, Fa2.same s3, List.mem_of_getElem? ea, List.mem_of_getElem? eb, fun H4 s4 => ⟨_, rfl, iteF ?_⟩⟩
        exact ⟨_, _, _, _, rfl, s3.trans s4⟩
      · rintro σ H3 ⟨v6, v7, v8, v9, rfl, s3⟩
        exact ⟨_, _, _, _, _, rfl, s3⟩
    · rintro σ H2 ⟨v5, v6, v7, v8, v9, rfl, s2⟩
      have W2 := W8.same s2
      refine ⟨_, rfl, lb, rfl, ⟨_, SqL.of W2.L.hb⟩, ?_⟩
      refine for_enum (K := K) (xs := ts.map V.ref) (fun i σ H4 => ∃ v5 v6 v7 v8 v9 : Option V, σ = [some (.ref x), some (.ref la), some (.ref lb), some (.ref df), some (.ref dn), v5, v6, v7, v8, v9] ∧ Same H8 H4) ⟨_, _, _, _, _, rfl, s2⟩ ?_ ?_ ?_
      · rintro i σ H4 _ ⟨_, _, _, _, _, rfl, s4⟩
        exact SqL.of (s4 _ _ W8.L.hb)
      · rintro i y σ H4 q hy ⟨v5, v6, v7, v8, v9, rfl, s4⟩ hq
        rw [List.getElem?_map] at hy
        obtain ⟨u, eu, rfl⟩ := Option.map_eq_some_iff.mp hy
        have sq := same_upd (o := .tup [.int i, .ref u]) hq
        have hq5 := upd_same (H := H4) (a := q) (o := .tup [.int i, .ref u])
        have s5 := s4.trans sq
        generalize upd H4 q (.tup [.int i, .ref u]) = H5 at hq5 s5 ⊢
        have W5 := W8.same s5
        obtain ⟨p, ep, hp5⟩ := W5.L.hT.get eu
        have hin := g.ins p (List.mem_of_getElem? ep)
        refine ⟨q, _, rfl, SqT.of hq5, rfl, _, _, rfl, _, _, rfl, u, _, rfl, SqT.of hp5, rfl, _, _, rfl, _, _, rfl, rfl, rfl, ?_⟩
        refine ⟨_, rfl, _, rfl, x, ns, ps, i, p, rfl, W5.W, g, ep, fun v H6' an s6' => ?_⟩
        have s6'' := s5.trans s6'
        obtain ⟨lf, zs, dg, hz, nz, mz⟩ := (Fa1'.same s6'').get g.good.nd hin.2
        refine ⟨_, rfl, _, rfl, _, rfl, df, _, rfl, dg, lf, _, rfl, .inl (SqL.of hz), rfl, flat_strs zs, _, rfl, ?_⟩
        simp only [Bool.false_eq_true, if_false]
        rw [inV_str]
        rcases an with ⟨r, rfl⟩ | ⟨r, t, rfl, ht⟩
        · rw [decide_eq_true ((mz p.1).mpr r)]
          refine iteT ⟨.non, .non, rfl, .inl ⟨rfl, rfl⟩, _, rfl, iteF ?_⟩
          exact ⟨_, _, _, _, _, rfl, s6''⟩
        · rw [decide_eq_false (fun q => r ((mz p.1).mp q))]
          refine iteF ⟨_, rfl, _, rfl, df, _, rfl, dg, lf, zs, rfl, SqL.of hz, far_small g hin.2 nz mz, fun l4 hl4 => ?_⟩
          have e4 : srt zs = rch ns ps p.2 := rch_of g.good.nd nz g.ins hin.2 mz
          rw [e4]
          refine ⟨l4, _, rfl, .inl ⟨SqL.of upd_same, fun t4 ht4 => ?_⟩⟩
          have s9 := (same_upd (o := .lst ((rch ns ps p.2).map V.str)) hl4).trans (same_upd (o := .tup ((rch ns ps p.2).map V.str)) ht4)
          refine ⟨.ref t, _, rfl, .inr ⟨t, t4, _, rfl, rfl, s9 _ _ ht, upd_same⟩, _, rfl, iteF ?_⟩
          exact ⟨_, _, _, _, _, rfl, s6''.trans s9⟩
      · rintro σ H4 ⟨v5, v6, v7, v8, v9, rfl, s4⟩
        exact k _ (s08.trans s4)
end
end K23

set_option Elab.async false
set_option linter.all false
set_option maxRecDepth 100000
set_option maxHeartbeats 4000000
namespace K23
open PySem PySem.Spec PyProof.Rows L2
section
variable {P : Program} {w : World} {K : PySem.W.Frag} {mg : Str → Option Value} {base : Heap}
variable {C E1 E2 fP fS fT fW fA fC' fL fSp fRe fTu fRs : Addr} {fdP fdS fdT fdW fdA fdC fdL fdSp fdRe fdTu fdRs : FuncData}
variable {fLe fGr fLo fAh fAn fIs : Addr} {fdLe fdGr fdLo fdAh fdAn fdIs : FuncData}
/-- the defs that draw a web -/
structure Dw (K : PySem.W.Frag) (mg : Str → Option Value) (fPo fTk fWd fNa fLt fWb : Addr) (fdPo fdTk fdWd fdNa fdLt fdWb : FuncData) : Prop where
  po : Df K mg "_law_pot" sPot ["_law_script", "_law_k"] fPo fdPo
  tk : Df K mg "_law_take" sTake ["_law_pot_here", "_law_many"] fTk fdTk
  wd : Df K mg "_law_word" sWord ["_law_pot_here"] fWd fdWd
  na : Df K mg "_law_names" sNames ["_law_pot_here", "_law_most"] fNa fdNa
  lt : Df K mg "_law_tie" sLTie ["_law_pot_here", "_law_names_here", "_law_sort"] fLt fdLt
  wb : Df K mg "_law_web" sWeb ["_law_pot_here"] fWb fdWb
  ab : mg "abs" = none
  di : mg "dict" = none
  en : mg "enumerate" = none
def spLaw (K : PySem.W.Frag) : Sp := fun vs H Q _ => ∃ (a : Addr) (ns : List Int), vs = [.ref a] ∧ SqL K H a (ns.map V.int) ∧ ns.length ≤ 63 ∧ ∀ H', Q (.bl true) H'
abbrev nL : List Str := ["_law_script", "_law_names_here", "_law_ties", "_law_web_here", "_law_cuts_here", "_law_one", "_law_other"]
theorem scL : FnScope nL ["_law_script"] (defScope sLaw) := ⟨rfl, rfl, rfl, by decide +kernel, rfl, by decide +kernel, by decide +kernel⟩
theorem ok_law {f fPo fTk fWd fNa fLt fWb fN fTi f1 f2 fI fCu fPa fTr fFa fFl fFs : Addr} {fd fdPo fdTk fdWd fdNa fdLt fdWb fdN fdTi fd1 fd2 fdI fdCu fdPa fdTr fdFa fdFl fdFs : FuncData} (F : Fun K "law" "law" sLaw f fd)
    (B : Dw K mg fPo fTk fWd fNa fLt fWb fdPo fdTk fdWd fdNa fdLt fdWb) (DN : Df K mg "is_name" sName ["thing"] fN fdN) (DT : Df K mg "is_tie" sTie ["places", "thing"] fTi fdTi) (D1 : Df K mg "check_places" sChkP ["places"] f1 fd1) (D2 : Df K mg "check_ties" sChkT ["places", "ties"] f2 fd2)
    (FI : Fun K "__init__" "Web.__init__" sInit fI fdI) (MkW : Mk K C fI) (bI : Binds K fdI ["self", "places", "ties"] []) (D : Rd K mg C E1 E2 fP fS fT fW fA fC' fL fSp fRe fTu fRs fdP fdS fdT fdW fdA fdC fdL fdSp fdRe fdTu fdRs) (M : Ld K mg fLe fGr fLo fAh fAn fIs fdLe fdGr fdLo fdAh fdAn fdIs)
    (DC : Df K mg "_law_cuts" sCuts ["_law_names_here", "_law_ties"] fCu fdCu) (DP : Df K mg "_law_pair_right" sPair ["_law_web_here", "_law_names_here", "_law_cuts_here", "_law_one", "_law_other"] fPa fdPa) (DTr : Df K mg "_law_tie_right" sTieR ["_law_web_here", "_law_names_here", "_law_ties", "_law_cuts_here", "_law_k"] fTr fdTr)
    (DFa : Df K mg "_law_far" sFar ["_law_ties", "_law_one"] fFa fdFa) (DFl : Df K mg "_law_flood_right" sFlood ["_law_web_here", "_law_names_here", "_law_far_here", "_law_near", "_law_one", "_law_other"] fFl fdFl) (DFs : Df K mg "_law_floods_right" sFloods ["_law_web_here", "_law_names_here", "_law_ties"] fFs fdFs) (T : Glb mg) : FnOk P w K mg base CX0 7 f fd ["_law_script"] (spLaw K) := by
  have GPo : FnOk P w K mg base CX0 1 fPo fdPo ["_law_script", "_law_k"] (spPot (K := K)) := ok_pot B.po.fn T B.ab
  have GWb : FnOk P w K mg base CX0 4 fWb fdWb ["_law_pot_here"] spWeb := ok_web B.wb.fn B.tk B.wd B.na B.lt T
  have GI : FnOk P w K mg base CX0 4 fI fdI ["self", "places", "ties"] (spInit C) := ok_init FI D.m.wc DN D.a DT D1 D2 T
  have GC : FnOk P w K mg base CX0 1 fCu fdCu ["_law_names_here", "_law_ties"] spCuts := ok_cuts DC.fn T
  have GP : FnOk P w K mg base CX0 5 fPa fdPa ["_law_web_here", "_law_names_here", "_law_cuts_here", "_law_one", "_law_other"] (spPair (K := K) C) := ok_pair DP.fn D M T
  have GT : FnOk P w K mg base CX0 6 fTr fdTr ["_law_web_here", "_law_names_here", "_law_ties", "_law_cuts_here", "_law_k"] (spTieR (K := K) C) := ok_tieR DTr.fn D M T
  have GF : FnOk P w K mg base CX0 6 fFs fdFs ["_law_web_here", "_law_names_here", "_law_ties"] (spFloods (K := K) C) := ok_floods DFs.fn D M DFa DFl T B.di B.en
  refine F.ok scL (fun vs H Q E h => ?_) (fun cdv A outer s H vs Q E hr h => ?_)
  · obtain ⟨a, ns, rfl, _⟩ := h
    rfl
  · obtain ⟨a, ns, rfl, hS, hlen, k⟩ := h
    have hr1 := hr.mono (j := 1) (by decide)
    have hr4 := hr.mono (j := 4) (by decide)
    have hr5 := hr.mono (j := 5) (by decide)
    refine ⟨_, pss_cons (ps_asg (pe_call GWb hr4 rfl B.wb.mgf B.wb.fn.kp B.wb.b .nil pass0 (pa_cons (pe_call GPo hr1 rfl B.po.mgf B.po.fn.kp B.po.b .nil pass0 (pa_cons (pv 0) (pa_cons pe_int pa_nil))) pa_nil)) (pg_tup rfl (pgs_cons (pg_name (i := 1) scL.nd rfl (Or.inr rfl)) (pgs_cons (pg_name (i := 2) scL.nd rfl (Or.inr rfl)) pgs_nil))))
      (pss_cons (ps_set (i := 3) scL.nd rfl (Or.inr rfl) (pe_make MkW GI hr5 rfl D.m.wc.mgC bI .nil pass0 (pa_cons (pv 1) (pa_cons (pv 2) pa_nil))))
      (pss_cons (ps_if (pt_cmpR op_gt (pe_callB call_len_seq (by rfl) T.len PySem.boot_len (pa_cons (pv 1) pa_nil)) pe_int (nomark _)) (pss_one (ps_ret (pe_call GF hr rfl DFs.mgf DFs.fn.kp DFs.b .nil pass0 (pa_cons (pv 3) (pa_cons (pv 1) (pa_cons (pv 2) pa_nil)))))) pss_nil)
      (pss_cons (ps_set (i := 4) scL.nd rfl (Or.inr rfl) (pe_call GC hr1 rfl DC.mgf DC.fn.kp DC.b .nil pass0 (pa_cons (pv 1) (pa_cons (pv 2) pa_nil))))
      (pss_cons (ps_for PassesOwn.never rfl (pi_list (pv 1)) (pg_name (i := 5) scL.nd rfl (Or.inl rfl))
        (pss_one (ps_for PassesOwn.never rfl (pi_list (pv 1)) (pg_name (i := 6) scL.nd rfl (Or.inl rfl))
          (pss_one (ps_if (pt_not (pt_val (pe_call GP hr5 rfl DP.mgf DP.fn.kp DP.b .nil pass0 (pa_cons (pv 3) (pa_cons (pv 1) (pa_cons (pv 4) (pa_cons (pv 5) (pa_cons (pv 6) pa_nil)))))) (fun _ => rfl))) (pss_one (ps_ret pe_bl)) pss_nil)))))
      (pss_one (ps_ret (pe_callB (call_all rfl) (by rfl) T.all PyProof.Rows.boot_all (pa_cons (pe_lc ["_law_k"] [3, 1, 2, 4] rfl (compSc (osc := (defScope sLaw).names) (N := nL) rfl rfl (by decide +kernel)) (gk_name (by decide))
          (pi_range1 rfl T.range (pa_cons (pe_callB call_len_seq (by rfl) T.len PySem.boot_len (pa_cons (pv 2) pa_nil)) pa_nil)) (fun _ _ _ => pg_name (i := 0) (show (["_law_k", "_law_web_here", "_law_names_here", "_law_ties", "_law_cuts_here"] : List Str).Nodup by decide +kernel) rfl (Or.inl rfl)) (fun _ _ _ => pifs_nil)
          (fun _ _ _ => pe_call GT hr rfl DTr.mgf DTr.fn.kp DTr.b .nil pass0 (pa_cons (pv 1) (pa_cons (pv 2) (pa_cons (pv 3) (pa_cons (pv 4) (pa_cons (pv 0) pa_nil))))))) pa_nil)))))))), ?_⟩
    refine ⟨_, rfl, a, ns, 0, rfl, hS, hlen, fun p H3 np row3 same3 => ?_⟩
    refine ⟨p, rfl, row3, fun t la lb zs ps ts H4 L4 ht4 na nb nt nab row4 but4 => ?_⟩
    have s4 : Same H H4 := Same.but same3 but4 np
    refine ⟨t, _, rfl, SqT.of ht4, rfl, _, _, rfl, _, _, rfl, rfl, ?_⟩
    refine ⟨_, rfl, _, rfl, ?_⟩
    intro x dx nx ndx nex
    have sx : Same H4 (upd (upd H4 dx (.own x)) x (.ins C dx [])) := Same.upd_new (same_upd ndx) nx
    refine ⟨x, la, lb, zs, ps, ts, rfl, ⟨dx, upd_same⟩, L4.same sx, fun H6 W6 b6 => ⟨rfl, ?_⟩⟩
    have s46 : Same H4 H6 := Same.but sx b6 nx
    have W : Web K C x la lb zs ps ts H6 := ⟨W6, L4.same s46⟩
    have g := W.good
    refine ⟨_, rfl, la, _, rfl, .inl (SqL.of W.L.ha), _, _, rfl, rfl, _, rfl, ?_⟩
    rw [List.length_map]
    refine ite2 (fun hbig => ?_) (fun hbig => ?_)
    · exact ⟨_, rfl, _, rfl, _, rfl, x, la, lb, zs, ps, ts, rfl, W, fun H7 _ => k H7⟩
    · have small : zs.length ≤ 7 := by
        have : ¬ (7 : Int) < zs.length := by simpa using hbig
        omega
      refine ⟨_, rfl, _, rfl, la, lb, zs, ts, ps, rfl, W.L, small, fun lc us cs H7 n7 h7 T7 few7 mem s7 => ?_⟩
      have W7 := W.same s7
      have Cu : CutsAt K H7 lc us cs := ⟨h7, T7, few7⟩
      refine ⟨_, rfl, la, rfl, ⟨_, SqL.of W7.L.ha⟩, ?_⟩
      refine for_list (K := K) (xs := zs.map V.str) (fun i σ H2 => ∃ v5 v6 : Option V, σ = [some (.ref a), some (.ref la), some (.ref lb), some (.ref x), some (.ref lc), v5, v6] ∧ Same H7 H2) ⟨_, _, rfl, Same.refl _⟩ ?_ ?_ ?_
      · rintro i σ H2 _ ⟨_, _, rfl, s2⟩
        exact SqL.of (s2 _ _ W7.L.ha)
      · rintro i y σ H2 hy ⟨v5, v6, rfl, s2⟩
        rw [List.getElem?_map] at hy
        obtain ⟨z1, e1, rfl⟩ := Option.map_eq_some_iff.mp hy
        refine ⟨_, rfl, la, rfl, ⟨_, SqL.of (s2 _ _ W7.L.ha)⟩, ?_⟩
        refine for_list (K := K) (xs := zs.map V.str) (fun j σ H3 => ∃ v6 : Option V, σ = [some (.ref a), some (.ref la), some (.ref lb), some (.ref x), some (.ref lc), some (.str z1), v6] ∧ Same H7 H3) ⟨_, rfl, s2⟩ ?_ ?_ ?_
        · rintro j σ H3 _ ⟨_, rfl, s3⟩
          exact SqL.of (s3 _ _ W7.L.ha)
        · rintro j y σ H3 hy ⟨v6, rfl, s3⟩
          rw [List.getElem?_map] at hy
          obtain ⟨z2, e2, rfl⟩ := Option.map_eq_some_iff.mp hy
          refine ⟨_, rfl, _, rfl, _, rfl, _, rfl, _, rfl, x, la, lb, lc, zs, ps, ts, us, cs, z1, z2, rfl, W7.same s3, Cu.same s3, mem, List.mem_of_getElem? e1, List.mem_of_getElem? e2, fun H5 s5 => ⟨_, rfl, iteF ?_⟩⟩
          exact ⟨_, rfl, s3.trans s5⟩
        · rintro σ H3 ⟨v6, rfl, s3⟩
          exact ⟨_, _, rfl, s3⟩
      · rintro σ H2 ⟨v5, v6, rfl, s2⟩
        have W2 := W7.same s2
        have le : (ts.map V.ref).length = ps.length := by rw [List.length_map, W2.L.hT.len]
        have fw := g.few
        refine ⟨_, rfl, lb, _, rfl, .inl (SqL.of W2.L.hb), _, rfl, by omega, by rw [le]; omega, lc_range (fun i ys H6 => Same H7 H6 ∧ ys = List.replicate i (V.bl true)) ⟨s2, rfl⟩ ?_ ?_ ?_⟩
        · rintro i ys H6 hi ⟨_, rfl⟩
          rw [List.length_replicate]
          rw [le] at hi
          exact Nat.le_trans hi (Nat.le_trans (show (ps.length : Int).toNat ≤ 30 by omega) (by decide))
        · rintro i ys H6 R hi ⟨s6, rfl⟩ kR
          rw [le] at hi
          have hi' : i < ps.length := by omega
          simp only [tYes, gName, if_true, Int.zero_add]
          refine ⟨_, rfl, _, rfl, _, rfl, _, rfl, _, rfl, x, la, lb, lc, zs, ps, ts, us, cs, i, rfl, W7.same s6, Cu.same s6, mem, hi', fun H8 s8 => ?_⟩
          exact kR _ _ ⟨s6.trans s8, by rw [List.replicate_succ']⟩
        · rintro ys H6 ⟨s6, rfl⟩ D0 hD0
          have e : ∀ n, List.replicate n (V.bl true) = (List.replicate n true).map V.bl := by simp
          refine ⟨D0, List.replicate _ true, rfl, (by rw [e]; exact SqL.of upd_same), ?_⟩
          have e2 : ∀ n, (List.replicate n true).all id = true := by simp
          rw [e2]
          exact k _
end
end K23

set_option Elab.async false
set_option linter.all false
set_option maxRecDepth 100000
set_option maxHeartbeats 4000000
namespace K23
open PySem PySem.Spec PyProof.Rows L2
theorem all_mk {l : PySem.W.OpenLaw} {w : World} {K : PySem.W.Frag} {h : Heap} {mg : Str → Option Value} {fa : Addr} {C : Addr} {f1 : Addr} {od1 an1 : Option Addr} {sl1 : Array (Option Value)} {oc1 kV1 dc1 pm1 cd1 ct1 : Value} {f2 : Addr} {od2 an2 : Option Addr} {sl2 : Array (Option Value)} {oc2 kV2 dc2 pm2 cd2 ct2 : Value} {f3 : Addr} {od3 an3 : Option Addr} {sl3 : Array (Option Value)} {oc3 kV3 dc3 pm3 cd3 ct3 : Value} {f4 : Addr} {od4 an4 : Option Addr} {sl4 : Array (Option Value)} {oc4 kV4 dc4 pm4 cd4 ct4 : Value} {f5 : Addr} {od5 an5 : Option Addr} {sl5 : Array (Option Value)} {oc5 kV5 dc5 pm5 cd5 ct5 : Value} {f6 : Addr} {od6 an6 : Option Addr} {sl6 : Array (Option Value)} {oc6 kV6 dc6 pm6 cd6 ct6 : Value} {f7 : Addr} {od7 an7 : Option Addr} {sl7 : Array (Option Value)} {oc7 kV7 dc7 pm7 cd7 ct7 : Value} {f8 : Addr} {od8 an8 : Option Addr} {sl8 : Array (Option Value)} {oc8 kV8 dc8 pm8 cd8 ct8 : Value} {f9 : Addr} {od9 an9 : Option Addr} {sl9 : Array (Option Value)} {oc9 kV9 dc9 pm9 cd9 ct9 : Value} {f10 : Addr} {od10 an10 : Option Addr} {sl10 : Array (Option Value)} {oc10 kV10 dc10 pm10 cd10 ct10 : Value} {f11 : Addr} {od11 an11 : Option Addr} {sl11 : Array (Option Value)} {oc11 kV11 dc11 pm11 cd11 ct11 : Value} {f12 : Addr} {od12 an12 : Option Addr} {sl12 : Array (Option Value)} {oc12 kV12 dc12 pm12 cd12 ct12 : Value} {f13 : Addr} {od13 an13 : Option Addr} {sl13 : Array (Option Value)} {oc13 kV13 dc13 pm13 cd13 ct13 : Value} {f14 : Addr} {od14 an14 : Option Addr} {sl14 : Array (Option Value)} {oc14 kV14 dc14 pm14 cd14 ct14 : Value} {f15 : Addr} {od15 an15 : Option Addr} {sl15 : Array (Option Value)} {oc15 kV15 dc15 pm15 cd15 ct15 : Value} {f16 : Addr} {od16 an16 : Option Addr} {sl16 : Array (Option Value)} {oc16 kV16 dc16 pm16 cd16 ct16 : Value} {f17 : Addr} {od17 an17 : Option Addr} {sl17 : Array (Option Value)} {oc17 kV17 dc17 pm17 cd17 ct17 : Value} {f18 : Addr} {od18 an18 : Option Addr} {sl18 : Array (Option Value)} {oc18 kV18 dc18 pm18 cd18 ct18 : Value} {f19 : Addr} {od19 an19 : Option Addr} {sl19 : Array (Option Value)} {oc19 kV19 dc19 pm19 cd19 ct19 : Value} {f20 : Addr} {od20 an20 : Option Addr} {sl20 : Array (Option Value)} {oc20 kV20 dc20 pm20 cd20 ct20 : Value} {f21 : Addr} {od21 an21 : Option Addr} {sl21 : Array (Option Value)} {oc21 kV21 dc21 pm21 cd21 ct21 : Value} {f22 : Addr} {od22 an22 : Option Addr} {sl22 : Array (Option Value)} {oc22 kV22 dc22 pm22 cd22 ct22 : Value} {f23 : Addr} {od23 an23 : Option Addr} {sl23 : Array (Option Value)} {oc23 kV23 dc23 pm23 cd23 ct23 : Value} {f24 : Addr} {od24 an24 : Option Addr} {sl24 : Array (Option Value)} {oc24 kV24 dc24 pm24 cd24 ct24 : Value} {f25 : Addr} {od25 an25 : Option Addr} {sl25 : Array (Option Value)} {oc25 kV25 dc25 pm25 cd25 ct25 : Value} {f26 : Addr} {od26 an26 : Option Addr} {sl26 : Array (Option Value)} {oc26 kV26 dc26 pm26 cd26 ct26 : Value} {f27 : Addr} {od27 an27 : Option Addr} {sl27 : Array (Option Value)} {oc27 kV27 dc27 pm27 cd27 ct27 : Value} {f28 : Addr} {od28 an28 : Option Addr} {sl28 : Array (Option Value)} {oc28 kV28 dc28 pm28 cd28 ct28 : Value} {f29 : Addr} {od29 an29 : Option Addr} {sl29 : Array (Option Value)} {oc29 kV29 dc29 pm29 cd29 ct29 : Value} {f30 : Addr} {od30 an30 : Option Addr} {sl30 : Array (Option Value)} {oc30 kV30 dc30 pm30 cd30 ct30 : Value} {f31 : Addr} {od31 an31 : Option Addr} {sl31 : Array (Option Value)} {oc31 kV31 dc31 pm31 cd31 ct31 : Value} {f32 : Addr} {od32 an32 : Option Addr} {sl32 : Array (Option Value)} {oc32 kV32 dc32 pm32 cd32 ct32 : Value} {f33 : Addr} {od33 an33 : Option Addr} {sl33 : Array (Option Value)} {oc33 kV33 dc33 pm33 cd33 ct33 : Value} {f34 : Addr} {od34 an34 : Option Addr} {sl34 : Array (Option Value)} {oc34 kV34 dc34 pm34 cd34 ct34 : Value} {f35 : Addr} {od35 an35 : Option Addr} {sl35 : Array (Option Value)} {oc35 kV35 dc35 pm35 cd35 ct35 : Value} {E1 : Addr} {E2 : Addr} {t_LONGEST : Tok} {t_MOST_PLACES : Tok} {t_MOST_TIES : Tok} (X : K.In h) (G : h.Ns mainGlobals mg) (hfa : mg "law" = some (.ref fa))
    (aC : PySem.W.nsIn K mainGlobals "Web" = some (some (.ref C)))
    (a1 : PySem.W.findIn K (.ref C) "__init__" = some (some (.ref f1)))
    (i1 : PySem.W.isFn K (.ref f1) = true)
    (l1 : K.lookup f1 = some ⟨oc1, od1, .func (PySem.W.fnOf "__init__" "Web.__init__" (defArgs sInit) (defBody sInit) (defScope sInit) .none kV1 dc1 pm1 an1 cd1 ct1), sl1⟩)
    (c1 : PySem.W.codeIn K cd1 "Web.__init__" = true)
    (k1 : PySem.W.keepIn K (.ref f1) = true)
    (a2 : PySem.W.findIn K (.ref C) "places" = some (some (.ref f2)))
    (i2 : PySem.W.isFn K (.ref f2) = true)
    (l2 : K.lookup f2 = some ⟨oc2, od2, .func (PySem.W.fnOf "places" "Web.places" (defArgs sPlaces) (defBody sPlaces) (defScope sPlaces) .none kV2 dc2 pm2 an2 cd2 ct2), sl2⟩)
    (c2 : PySem.W.codeIn K cd2 "Web.places" = true)
    (k2 : PySem.W.keepIn K (.ref f2) = true)
    (a3 : PySem.W.findIn K (.ref C) "tie" = some (some (.ref f3)))
    (i3 : PySem.W.isFn K (.ref f3) = true)
    (l3 : K.lookup f3 = some ⟨oc3, od3, .func (PySem.W.fnOf "tie" "Web.tie" (defArgs sTieM) (defBody sTieM) (defScope sTieM) .none kV3 dc3 pm3 an3 cd3 ct3), sl3⟩)
    (c3 : PySem.W.codeIn K cd3 "Web.tie" = true)
    (k3 : PySem.W.keepIn K (.ref f3) = true)
    (a4 : PySem.W.findIn K (.ref C) "ties" = some (some (.ref f4)))
    (i4 : PySem.W.isFn K (.ref f4) = true)
    (l4 : K.lookup f4 = some ⟨oc4, od4, .func (PySem.W.fnOf "ties" "Web.ties" (defArgs sTies) (defBody sTies) (defScope sTies) .none kV4 dc4 pm4 an4 cd4 ct4), sl4⟩)
    (c4 : PySem.W.codeIn K cd4 "Web.ties" = true)
    (k4 : PySem.W.keepIn K (.ref f4) = true)
    (pg : PySem.W.plainGet K C Str.empty = true)
    (hd : PySem.W.hasDictIn K C = true)
    (po : PySem.W.plainOver K C = true)
    (sa : PySem.W.findIn K (.ref C) "__setattr__" = some (some (.builtin "object.__setattr__")))
    (mk : PySem.W.makesIn K C = true)
    (kc : PySem.W.keepIn K (.ref C) = true)
    (nA0 : PySem.W.findIn K (.ref C) "kept_places" = some none)
    (nA1 : PySem.W.findIn K (.ref C) "kept_ties" = some none)
    (a5 : PySem.W.nsIn K mainGlobals "is_whole" = some (some (.ref f5)))
    (l5 : K.lookup f5 = some ⟨oc5, od5, .func (PySem.W.fnOf "is_whole" "is_whole" (defArgs sWhole) (defBody sWhole) (defScope sWhole) .none kV5 dc5 pm5 an5 cd5 ct5), sl5⟩)
    (c5 : PySem.W.codeIn K cd5 "is_whole" = true)
    (k5 : PySem.W.keepIn K (.ref f5) = true)
    (a6 : PySem.W.nsIn K mainGlobals "is_name" = some (some (.ref f6)))
    (l6 : K.lookup f6 = some ⟨oc6, od6, .func (PySem.W.fnOf "is_name" "is_name" (defArgs sName) (defBody sName) (defScope sName) .none kV6 dc6 pm6 an6 cd6 ct6), sl6⟩)
    (c6 : PySem.W.codeIn K cd6 "is_name" = true)
    (k6 : PySem.W.keepIn K (.ref f6) = true)
    (a7 : PySem.W.nsIn K mainGlobals "check_places" = some (some (.ref f7)))
    (l7 : K.lookup f7 = some ⟨oc7, od7, .func (PySem.W.fnOf "check_places" "check_places" (defArgs sChkP) (defBody sChkP) (defScope sChkP) .none kV7 dc7 pm7 an7 cd7 ct7), sl7⟩)
    (c7 : PySem.W.codeIn K cd7 "check_places" = true)
    (k7 : PySem.W.keepIn K (.ref f7) = true)
    (a8 : PySem.W.nsIn K mainGlobals "is_among" = some (some (.ref f8)))
    (l8 : K.lookup f8 = some ⟨oc8, od8, .func (PySem.W.fnOf "is_among" "is_among" (defArgs sAmong) (defBody sAmong) (defScope sAmong) .none kV8 dc8 pm8 an8 cd8 ct8), sl8⟩)
    (c8 : PySem.W.codeIn K cd8 "is_among" = true)
    (k8 : PySem.W.keepIn K (.ref f8) = true)
    (a9 : PySem.W.nsIn K mainGlobals "is_tie" = some (some (.ref f9)))
    (l9 : K.lookup f9 = some ⟨oc9, od9, .func (PySem.W.fnOf "is_tie" "is_tie" (defArgs sTie) (defBody sTie) (defScope sTie) .none kV9 dc9 pm9 an9 cd9 ct9), sl9⟩)
    (c9 : PySem.W.codeIn K cd9 "is_tie" = true)
    (k9 : PySem.W.keepIn K (.ref f9) = true)
    (a10 : PySem.W.nsIn K mainGlobals "check_ties" = some (some (.ref f10)))
    (l10 : K.lookup f10 = some ⟨oc10, od10, .func (PySem.W.fnOf "check_ties" "check_ties" (defArgs sChkT) (defBody sChkT) (defScope sChkT) .none kV10 dc10 pm10 an10 cd10 ct10), sl10⟩)
    (c10 : PySem.W.codeIn K cd10 "check_ties" = true)
    (k10 : PySem.W.keepIn K (.ref f10) = true)
    (a11 : PySem.W.nsIn K mainGlobals "check_place" = some (some (.ref f11)))
    (l11 : K.lookup f11 = some ⟨oc11, od11, .func (PySem.W.fnOf "check_place" "check_place" (defArgs sChkPl) (defBody sChkPl) (defScope sChkPl) .none kV11 dc11 pm11 an11 cd11 ct11), sl11⟩)
    (c11 : PySem.W.codeIn K cd11 "check_place" = true)
    (k11 : PySem.W.keepIn K (.ref f11) = true)
    (a12 : PySem.W.nsIn K mainGlobals "leads" = some (some (.ref f12)))
    (l12 : K.lookup f12 = some ⟨oc12, od12, .func (PySem.W.fnOf "leads" "leads" (defArgs sLeads) (defBody sLeads) (defScope sLeads) .none kV12 dc12 pm12 an12 cd12 ct12), sl12⟩)
    (c12 : PySem.W.codeIn K cd12 "leads" = true)
    (k12 : PySem.W.keepIn K (.ref f12) = true)
    (a13 : PySem.W.nsIn K mainGlobals "turned_pairs" = some (some (.ref f13)))
    (l13 : K.lookup f13 = some ⟨oc13, od13, .func (PySem.W.fnOf "turned_pairs" "turned_pairs" (defArgs sTurned) (defBody sTurned) (defScope sTurned) .none kV13 dc13 pm13 an13 cd13 ct13), sl13⟩)
    (c13 : PySem.W.codeIn K cd13 "turned_pairs" = true)
    (k13 : PySem.W.keepIn K (.ref f13) = true)
    (a14 : PySem.W.nsIn K mainGlobals "spread" = some (some (.ref f14)))
    (l14 : K.lookup f14 = some ⟨oc14, od14, .func (PySem.W.fnOf "spread" "spread" (defArgs sSpread) (defBody sSpread) (defScope sSpread) .none kV14 dc14 pm14 an14 cd14 ct14), sl14⟩)
    (c14 : PySem.W.codeIn K cd14 "spread" = true)
    (k14 : PySem.W.keepIn K (.ref f14) = true)
    (a15 : PySem.W.nsIn K mainGlobals "reached" = some (some (.ref f15)))
    (l15 : K.lookup f15 = some ⟨oc15, od15, .func (PySem.W.fnOf "reached" "reached" (defArgs sReached) (defBody sReached) (defScope sReached) .none kV15 dc15 pm15 an15 cd15 ct15), sl15⟩)
    (c15 : PySem.W.codeIn K cd15 "reached" = true)
    (k15 : PySem.W.keepIn K (.ref f15) = true)
    (a16 : PySem.W.nsIn K mainGlobals "reachers" = some (some (.ref f16)))
    (l16 : K.lookup f16 = some ⟨oc16, od16, .func (PySem.W.fnOf "reachers" "reachers" (defArgs sReachers) (defBody sReachers) (defScope sReachers) .none kV16 dc16 pm16 an16 cd16 ct16), sl16⟩)
    (c16 : PySem.W.codeIn K cd16 "reachers" = true)
    (k16 : PySem.W.keepIn K (.ref f16) = true)
    (a17 : PySem.W.nsIn K mainGlobals "least" = some (some (.ref f17)))
    (l17 : K.lookup f17 = some ⟨oc17, od17, .func (PySem.W.fnOf "least" "least" (defArgs sLeast) (defBody sLeast) (defScope sLeast) .none kV17 dc17 pm17 an17 cd17 ct17), sl17⟩)
    (c17 : PySem.W.codeIn K cd17 "least" = true)
    (k17 : PySem.W.keepIn K (.ref f17) = true)
    (a18 : PySem.W.nsIn K mainGlobals "greatest" = some (some (.ref f18)))
    (l18 : K.lookup f18 = some ⟨oc18, od18, .func (PySem.W.fnOf "greatest" "greatest" (defArgs sGreatest) (defBody sGreatest) (defScope sGreatest) .none kV18 dc18 pm18 an18 cd18 ct18), sl18⟩)
    (c18 : PySem.W.codeIn K cd18 "greatest" = true)
    (k18 : PySem.W.keepIn K (.ref f18) = true)
    (a19 : PySem.W.nsIn K mainGlobals "least_of" = some (some (.ref f19)))
    (l19 : K.lookup f19 = some ⟨oc19, od19, .func (PySem.W.fnOf "least_of" "least_of" (defArgs sLeastOf) (defBody sLeastOf) (defScope sLeastOf) .none kV19 dc19 pm19 an19 cd19 ct19), sl19⟩)
    (c19 : PySem.W.codeIn K cd19 "least_of" = true)
    (k19 : PySem.W.keepIn K (.ref f19) = true)
    (a20 : PySem.W.nsIn K mainGlobals "_law_pot" = some (some (.ref f20)))
    (l20 : K.lookup f20 = some ⟨oc20, od20, .func (PySem.W.fnOf "_law_pot" "_law_pot" (defArgs sPot) (defBody sPot) (defScope sPot) .none kV20 dc20 pm20 an20 cd20 ct20), sl20⟩)
    (c20 : PySem.W.codeIn K cd20 "_law_pot" = true)
    (k20 : PySem.W.keepIn K (.ref f20) = true)
    (a21 : PySem.W.nsIn K mainGlobals "_law_take" = some (some (.ref f21)))
    (l21 : K.lookup f21 = some ⟨oc21, od21, .func (PySem.W.fnOf "_law_take" "_law_take" (defArgs sTake) (defBody sTake) (defScope sTake) .none kV21 dc21 pm21 an21 cd21 ct21), sl21⟩)
    (c21 : PySem.W.codeIn K cd21 "_law_take" = true)
    (k21 : PySem.W.keepIn K (.ref f21) = true)
    (a22 : PySem.W.nsIn K mainGlobals "_law_word" = some (some (.ref f22)))
    (l22 : K.lookup f22 = some ⟨oc22, od22, .func (PySem.W.fnOf "_law_word" "_law_word" (defArgs sWord) (defBody sWord) (defScope sWord) .none kV22 dc22 pm22 an22 cd22 ct22), sl22⟩)
    (c22 : PySem.W.codeIn K cd22 "_law_word" = true)
    (k22 : PySem.W.keepIn K (.ref f22) = true)
    (a23 : PySem.W.nsIn K mainGlobals "_law_names" = some (some (.ref f23)))
    (l23 : K.lookup f23 = some ⟨oc23, od23, .func (PySem.W.fnOf "_law_names" "_law_names" (defArgs sNames) (defBody sNames) (defScope sNames) .none kV23 dc23 pm23 an23 cd23 ct23), sl23⟩)
    (c23 : PySem.W.codeIn K cd23 "_law_names" = true)
    (k23 : PySem.W.keepIn K (.ref f23) = true)
    (a24 : PySem.W.nsIn K mainGlobals "_law_tie" = some (some (.ref f24)))
    (l24 : K.lookup f24 = some ⟨oc24, od24, .func (PySem.W.fnOf "_law_tie" "_law_tie" (defArgs sLTie) (defBody sLTie) (defScope sLTie) .none kV24 dc24 pm24 an24 cd24 ct24), sl24⟩)
    (c24 : PySem.W.codeIn K cd24 "_law_tie" = true)
    (k24 : PySem.W.keepIn K (.ref f24) = true)
    (a25 : PySem.W.nsIn K mainGlobals "_law_web" = some (some (.ref f25)))
    (l25 : K.lookup f25 = some ⟨oc25, od25, .func (PySem.W.fnOf "_law_web" "_law_web" (defArgs sWeb) (defBody sWeb) (defScope sWeb) .none kV25 dc25 pm25 an25 cd25 ct25), sl25⟩)
    (c25 : PySem.W.codeIn K cd25 "_law_web" = true)
    (k25 : PySem.W.keepIn K (.ref f25) = true)
    (a26 : PySem.W.nsIn K mainGlobals "_law_cuts" = some (some (.ref f26)))
    (l26 : K.lookup f26 = some ⟨oc26, od26, .func (PySem.W.fnOf "_law_cuts" "_law_cuts" (defArgs sCuts) (defBody sCuts) (defScope sCuts) .none kV26 dc26 pm26 an26 cd26 ct26), sl26⟩)
    (c26 : PySem.W.codeIn K cd26 "_law_cuts" = true)
    (k26 : PySem.W.keepIn K (.ref f26) = true)
    (a27 : PySem.W.nsIn K mainGlobals "_law_all_have" = some (some (.ref f27)))
    (l27 : K.lookup f27 = some ⟨oc27, od27, .func (PySem.W.fnOf "_law_all_have" "_law_all_have" (defArgs sAllHave) (defBody sAllHave) (defScope sAllHave) .none kV27 dc27 pm27 an27 cd27 ct27), sl27⟩)
    (c27 : PySem.W.codeIn K cd27 "_law_all_have" = true)
    (k27 : PySem.W.keepIn K (.ref f27) = true)
    (a28 : PySem.W.nsIn K mainGlobals "_law_any_has" = some (some (.ref f28)))
    (l28 : K.lookup f28 = some ⟨oc28, od28, .func (PySem.W.fnOf "_law_any_has" "_law_any_has" (defArgs sAnyHas) (defBody sAnyHas) (defScope sAnyHas) .none kV28 dc28 pm28 an28 cd28 ct28), sl28⟩)
    (c28 : PySem.W.codeIn K cd28 "_law_any_has" = true)
    (k28 : PySem.W.keepIn K (.ref f28) = true)
    (a29 : PySem.W.nsIn K mainGlobals "_law_is" = some (some (.ref f29)))
    (l29 : K.lookup f29 = some ⟨oc29, od29, .func (PySem.W.fnOf "_law_is" "_law_is" (defArgs sIs) (defBody sIs) (defScope sIs) .none kV29 dc29 pm29 an29 cd29 ct29), sl29⟩)
    (c29 : PySem.W.codeIn K cd29 "_law_is" = true)
    (k29 : PySem.W.keepIn K (.ref f29) = true)
    (a30 : PySem.W.nsIn K mainGlobals "_law_pair_right" = some (some (.ref f30)))
    (l30 : K.lookup f30 = some ⟨oc30, od30, .func (PySem.W.fnOf "_law_pair_right" "_law_pair_right" (defArgs sPair) (defBody sPair) (defScope sPair) .none kV30 dc30 pm30 an30 cd30 ct30), sl30⟩)
    (c30 : PySem.W.codeIn K cd30 "_law_pair_right" = true)
    (k30 : PySem.W.keepIn K (.ref f30) = true)
    (a31 : PySem.W.nsIn K mainGlobals "_law_tie_right" = some (some (.ref f31)))
    (l31 : K.lookup f31 = some ⟨oc31, od31, .func (PySem.W.fnOf "_law_tie_right" "_law_tie_right" (defArgs sTieR) (defBody sTieR) (defScope sTieR) .none kV31 dc31 pm31 an31 cd31 ct31), sl31⟩)
    (c31 : PySem.W.codeIn K cd31 "_law_tie_right" = true)
    (k31 : PySem.W.keepIn K (.ref f31) = true)
    (a32 : PySem.W.nsIn K mainGlobals "_law_far" = some (some (.ref f32)))
    (l32 : K.lookup f32 = some ⟨oc32, od32, .func (PySem.W.fnOf "_law_far" "_law_far" (defArgs sFar) (defBody sFar) (defScope sFar) .none kV32 dc32 pm32 an32 cd32 ct32), sl32⟩)
    (c32 : PySem.W.codeIn K cd32 "_law_far" = true)
    (k32 : PySem.W.keepIn K (.ref f32) = true)
    (a33 : PySem.W.nsIn K mainGlobals "_law_flood_right" = some (some (.ref f33)))
    (l33 : K.lookup f33 = some ⟨oc33, od33, .func (PySem.W.fnOf "_law_flood_right" "_law_flood_right" (defArgs sFlood) (defBody sFlood) (defScope sFlood) .none kV33 dc33 pm33 an33 cd33 ct33), sl33⟩)
    (c33 : PySem.W.codeIn K cd33 "_law_flood_right" = true)
    (k33 : PySem.W.keepIn K (.ref f33) = true)
    (a34 : PySem.W.nsIn K mainGlobals "_law_floods_right" = some (some (.ref f34)))
    (l34 : K.lookup f34 = some ⟨oc34, od34, .func (PySem.W.fnOf "_law_floods_right" "_law_floods_right" (defArgs sFloods) (defBody sFloods) (defScope sFloods) .none kV34 dc34 pm34 an34 cd34 ct34), sl34⟩)
    (c34 : PySem.W.codeIn K cd34 "_law_floods_right" = true)
    (k34 : PySem.W.keepIn K (.ref f34) = true)
    (a35 : PySem.W.nsIn K mainGlobals "law" = some (some (.ref f35)))
    (l35 : K.lookup f35 = some ⟨oc35, od35, .func (PySem.W.fnOf "law" "law" (defArgs sLaw) (defBody sLaw) (defScope sLaw) .none kV35 dc35 pm35 an35 cd35 ct35), sl35⟩)
    (c35 : PySem.W.codeIn K cd35 "law" = true)
    (k35 : PySem.W.keepIn K (.ref f35) = true)
    (xE1 : PySem.W.nsIn K mainGlobals "NoTie" = some (some (.ref E1)))
    (yE1 : PySem.W.excIn K E1 [.type "ValueError", .type "Exception", .type "BaseException", .type "object"] "ValueError.__new__" = true)
    (zE1_0 : PySem.W.isClsIn K E1 = true)
    (zE1_1 : PySem.W.mroIn K E1 (.type "object") = some true)
    (zE1_2 : PySem.W.mroIn K E1 (.type "BaseException") = some true)
    (zE1_3 : PySem.W.findIn K (.ref E1) "__getattribute__" = some (some (.builtin "BaseException.__getattribute__")))
    (zE1_4 : PySem.W.findIn K (.ref E1) "__getattr__" = some none)
    (zE1_5 : PySem.W.findIn K (.ref E1) "__class__" = some (some (.builtin "object.__class__")))
    (xE2 : PySem.W.nsIn K mainGlobals "NoPlace" = some (some (.ref E2)))
    (yE2 : PySem.W.excIn K E2 [.type "ValueError", .type "Exception", .type "BaseException", .type "object"] "ValueError.__new__" = true)
    (zE2_0 : PySem.W.isClsIn K E2 = true)
    (zE2_1 : PySem.W.mroIn K E2 (.type "object") = some true)
    (zE2_2 : PySem.W.mroIn K E2 (.type "BaseException") = some true)
    (zE2_3 : PySem.W.findIn K (.ref E2) "__getattribute__" = some (some (.builtin "BaseException.__getattribute__")))
    (zE2_4 : PySem.W.findIn K (.ref E2) "__getattr__" = some none)
    (zE2_5 : PySem.W.findIn K (.ref E2) "__class__" = some (some (.builtin "object.__class__")))
    (g_divmod : PySem.W.nsIn K mainGlobals "divmod" = some none)
    (g_len : PySem.W.nsIn K mainGlobals "len" = some none)
    (g_all : PySem.W.nsIn K mainGlobals "all" = some none)
    (g_isinstance : PySem.W.nsIn K mainGlobals "isinstance" = some none)
    (g_str : PySem.W.nsIn K mainGlobals "str" = some none)
    (g_range : PySem.W.nsIn K mainGlobals "range" = some none)
    (g_max : PySem.W.nsIn K mainGlobals "max" = some none)
    (g_min : PySem.W.nsIn K mainGlobals "min" = some none)
    (g_bool : PySem.W.nsIn K mainGlobals "bool" = some none)
    (g_list : PySem.W.nsIn K mainGlobals "list" = some none)
    (g_int : PySem.W.nsIn K mainGlobals "int" = some none)
    (g_tuple : PySem.W.nsIn K mainGlobals "tuple" = some none)
    (g_set : PySem.W.nsIn K mainGlobals "set" = some none)
    (g_sorted : PySem.W.nsIn K mainGlobals "sorted" = some none)
    (g_abs : PySem.W.nsIn K mainGlobals "abs" = some none)
    (g_dict : PySem.W.nsIn K mainGlobals "dict" = some none)
    (g_enumerate : PySem.W.nsIn K mainGlobals "enumerate" = some none)
    (g_LONGEST : PySem.W.nsIn K mainGlobals "LONGEST" = some (some (.int 8 t_LONGEST)))
    (g_MOST_PLACES : PySem.W.nsIn K mainGlobals "MOST_PLACES" = some (some (.int 12 t_MOST_PLACES)))
    (g_MOST_TIES : PySem.W.nsIn K mainGlobals "MOST_TIES" = some (some (.int 30 t_MOST_TIES)))
    : ∃ fd : FuncData, (∀ (s : Shared) (v : Value), BindsTo s fd ⟨[v], []⟩ [("_law_script", v)]) ∧ ∀ base : Heap, K.In base → base.Ns mainGlobals mg → FnOk l.prog w K mg base CX0 7 fa fd ["_law_script"] (spLaw K) := by
  have e := hfa.symm.trans (PySem.W.mg_of X G a35)
  cases e
  have F_init := fun_mk (st := sInit) l1 c1 k1
  have B_init := F_init.binds (ps := ["self", "places", "ties"]) fun _ _ _ _ _ _ us hl => match us, hl with | [_, _, _], _ => rfl
  have Mm_init : Meth K C "__init__" f1 := ⟨a1, i1, k1⟩
  have F_places := fun_mk (st := sPlaces) l2 c2 k2
  have B_places := F_places.binds (ps := ["self"]) fun _ _ _ _ _ _ us hl => match us, hl with | [_], _ => rfl
  have Mm_places : Meth K C "places" f2 := ⟨a2, i2, k2⟩
  have F_tieM := fun_mk (st := sTieM) l3 c3 k3
  have B_tieM := F_tieM.binds (ps := ["self", "k"]) fun _ _ _ _ _ _ us hl => match us, hl with | [_, _], _ => rfl
  have Mm_tieM : Meth K C "tie" f3 := ⟨a3, i3, k3⟩
  have F_ties := fun_mk (st := sTies) l4 c4 k4
  have B_ties := F_ties.binds (ps := ["self"]) fun _ _ _ _ _ _ us hl => match us, hl with | [_], _ => rfl
  have Mm_ties : Meth K C "ties" f4 := ⟨a4, i4, k4⟩
  have W : WC K mg C := ⟨⟨pg, hd, po, sa⟩, nA0, nA1, PySem.W.mg_of X G aC⟩
  have MkC : Mk K C f1 := ⟨mk, a1, i1, kc⟩
  have F_whole := fun_mk (st := sWhole) l5 c5 k5
  have B_whole := F_whole.binds (ps := ["thing"]) fun _ _ _ _ _ _ us hl => match us, hl with | [_], _ => rfl
  have D_whole : Df K mg "is_whole" sWhole ["thing"] f5 _ := ⟨F_whole, PySem.W.mg_of X G a5, B_whole⟩
  have F_name := fun_mk (st := sName) l6 c6 k6
  have B_name := F_name.binds (ps := ["thing"]) fun _ _ _ _ _ _ us hl => match us, hl with | [_], _ => rfl
  have D_name : Df K mg "is_name" sName ["thing"] f6 _ := ⟨F_name, PySem.W.mg_of X G a6, B_name⟩
  have F_chkP := fun_mk (st := sChkP) l7 c7 k7
  have B_chkP := F_chkP.binds (ps := ["places"]) fun _ _ _ _ _ _ us hl => match us, hl with | [_], _ => rfl
  have D_chkP : Df K mg "check_places" sChkP ["places"] f7 _ := ⟨F_chkP, PySem.W.mg_of X G a7, B_chkP⟩
  have F_among := fun_mk (st := sAmong) l8 c8 k8
  have B_among := F_among.binds (ps := ["places", "thing"]) fun _ _ _ _ _ _ us hl => match us, hl with | [_, _], _ => rfl
  have D_among : Df K mg "is_among" sAmong ["places", "thing"] f8 _ := ⟨F_among, PySem.W.mg_of X G a8, B_among⟩
  have F_tie := fun_mk (st := sTie) l9 c9 k9
  have B_tie := F_tie.binds (ps := ["places", "thing"]) fun _ _ _ _ _ _ us hl => match us, hl with | [_, _], _ => rfl
  have D_tie : Df K mg "is_tie" sTie ["places", "thing"] f9 _ := ⟨F_tie, PySem.W.mg_of X G a9, B_tie⟩
  have F_chkT := fun_mk (st := sChkT) l10 c10 k10
  have B_chkT := F_chkT.binds (ps := ["places", "ties"]) fun _ _ _ _ _ _ us hl => match us, hl with | [_, _], _ => rfl
  have D_chkT : Df K mg "check_ties" sChkT ["places", "ties"] f10 _ := ⟨F_chkT, PySem.W.mg_of X G a10, B_chkT⟩
  have F_chkPl := fun_mk (st := sChkPl) l11 c11 k11
  have B_chkPl := F_chkPl.binds (ps := ["web", "place"]) fun _ _ _ _ _ _ us hl => match us, hl with | [_, _], _ => rfl
  have D_chkPl : Df K mg "check_place" sChkPl ["web", "place"] f11 _ := ⟨F_chkPl, PySem.W.mg_of X G a11, B_chkPl⟩
  have F_leads := fun_mk (st := sLeads) l12 c12 k12
  have B_leads := F_leads.binds (ps := ["places", "ties"]) fun _ _ _ _ _ _ us hl => match us, hl with | [_, _], _ => rfl
  have D_leads : Df K mg "leads" sLeads ["places", "ties"] f12 _ := ⟨F_leads, PySem.W.mg_of X G a12, B_leads⟩
  have F_turned := fun_mk (st := sTurned) l13 c13 k13
  have B_turned := F_turned.binds (ps := ["ties"]) fun _ _ _ _ _ _ us hl => match us, hl with | [_], _ => rfl
  have D_turned : Df K mg "turned_pairs" sTurned ["ties"] f13 _ := ⟨F_turned, PySem.W.mg_of X G a13, B_turned⟩
  have F_spread := fun_mk (st := sSpread) l14 c14 k14
  have B_spread := F_spread.binds (ps := ["steps", "start"]) fun _ _ _ _ _ _ us hl => match us, hl with | [_, _], _ => rfl
  have D_spread : Df K mg "spread" sSpread ["steps", "start"] f14 _ := ⟨F_spread, PySem.W.mg_of X G a14, B_spread⟩
  have F_reached := fun_mk (st := sReached) l15 c15 k15
  have B_reached := F_reached.binds (ps := ["web", "place"]) fun _ _ _ _ _ _ us hl => match us, hl with | [_, _], _ => rfl
  have D_reached : Df K mg "reached" sReached ["web", "place"] f15 _ := ⟨F_reached, PySem.W.mg_of X G a15, B_reached⟩
  have F_reachers := fun_mk (st := sReachers) l16 c16 k16
  have B_reachers := F_reachers.binds (ps := ["web", "place"]) fun _ _ _ _ _ _ us hl => match us, hl with | [_, _], _ => rfl
  have D_reachers : Df K mg "reachers" sReachers ["web", "place"] f16 _ := ⟨F_reachers, PySem.W.mg_of X G a16, B_reachers⟩
  have F_least := fun_mk (st := sLeast) l17 c17 k17
  have B_least := F_least.binds (ps := ["web", "one", "other"]) fun _ _ _ _ _ _ us hl => match us, hl with | [_, _, _], _ => rfl
  have D_least : Df K mg "least" sLeast ["web", "one", "other"] f17 _ := ⟨F_least, PySem.W.mg_of X G a17, B_least⟩
  have F_greatest := fun_mk (st := sGreatest) l18 c18 k18
  have B_greatest := F_greatest.binds (ps := ["web", "one", "other"]) fun _ _ _ _ _ _ us hl => match us, hl with | [_, _, _], _ => rfl
  have D_greatest : Df K mg "greatest" sGreatest ["web", "one", "other"] f18 _ := ⟨F_greatest, PySem.W.mg_of X G a18, B_greatest⟩
  have F_leastOf := fun_mk (st := sLeastOf) l19 c19 k19
  have B_leastOf := F_leastOf.binds (ps := ["web", "k"]) fun _ _ _ _ _ _ us hl => match us, hl with | [_, _], _ => rfl
  have D_leastOf : Df K mg "least_of" sLeastOf ["web", "k"] f19 _ := ⟨F_leastOf, PySem.W.mg_of X G a19, B_leastOf⟩
  have F_pot := fun_mk (st := sPot) l20 c20 k20
  have B_pot := F_pot.binds (ps := ["_law_script", "_law_k"]) fun _ _ _ _ _ _ us hl => match us, hl with | [_, _], _ => rfl
  have D_pot : Df K mg "_law_pot" sPot ["_law_script", "_law_k"] f20 _ := ⟨F_pot, PySem.W.mg_of X G a20, B_pot⟩
  have F_take := fun_mk (st := sTake) l21 c21 k21
  have B_take := F_take.binds (ps := ["_law_pot_here", "_law_many"]) fun _ _ _ _ _ _ us hl => match us, hl with | [_, _], _ => rfl
  have D_take : Df K mg "_law_take" sTake ["_law_pot_here", "_law_many"] f21 _ := ⟨F_take, PySem.W.mg_of X G a21, B_take⟩
  have F_word := fun_mk (st := sWord) l22 c22 k22
  have B_word := F_word.binds (ps := ["_law_pot_here"]) fun _ _ _ _ _ _ us hl => match us, hl with | [_], _ => rfl
  have D_word : Df K mg "_law_word" sWord ["_law_pot_here"] f22 _ := ⟨F_word, PySem.W.mg_of X G a22, B_word⟩
  have F_names := fun_mk (st := sNames) l23 c23 k23
  have B_names := F_names.binds (ps := ["_law_pot_here", "_law_most"]) fun _ _ _ _ _ _ us hl => match us, hl with | [_, _], _ => rfl
  have D_names : Df K mg "_law_names" sNames ["_law_pot_here", "_law_most"] f23 _ := ⟨F_names, PySem.W.mg_of X G a23, B_names⟩
  have F_ltie := fun_mk (st := sLTie) l24 c24 k24
  have B_ltie := F_ltie.binds (ps := ["_law_pot_here", "_law_names_here", "_law_sort"]) fun _ _ _ _ _ _ us hl => match us, hl with | [_, _, _], _ => rfl
  have D_ltie : Df K mg "_law_tie" sLTie ["_law_pot_here", "_law_names_here", "_law_sort"] f24 _ := ⟨F_ltie, PySem.W.mg_of X G a24, B_ltie⟩
  have F_web := fun_mk (st := sWeb) l25 c25 k25
  have B_web := F_web.binds (ps := ["_law_pot_here"]) fun _ _ _ _ _ _ us hl => match us, hl with | [_], _ => rfl
  have D_web : Df K mg "_law_web" sWeb ["_law_pot_here"] f25 _ := ⟨F_web, PySem.W.mg_of X G a25, B_web⟩
  have F_cuts := fun_mk (st := sCuts) l26 c26 k26
  have B_cuts := F_cuts.binds (ps := ["_law_names_here", "_law_ties"]) fun _ _ _ _ _ _ us hl => match us, hl with | [_, _], _ => rfl
  have D_cuts : Df K mg "_law_cuts" sCuts ["_law_names_here", "_law_ties"] f26 _ := ⟨F_cuts, PySem.W.mg_of X G a26, B_cuts⟩
  have F_allH := fun_mk (st := sAllHave) l27 c27 k27
  have B_allH := F_allH.binds (ps := ["_law_names_here", "_law_some"]) fun _ _ _ _ _ _ us hl => match us, hl with | [_, _], _ => rfl
  have D_allH : Df K mg "_law_all_have" sAllHave ["_law_names_here", "_law_some"] f27 _ := ⟨F_allH, PySem.W.mg_of X G a27, B_allH⟩
  have F_anyH := fun_mk (st := sAnyHas) l28 c28 k28
  have B_anyH := F_anyH.binds (ps := ["_law_names_here", "_law_some"]) fun _ _ _ _ _ _ us hl => match us, hl with | [_, _], _ => rfl
  have D_anyH : Df K mg "_law_any_has" sAnyHas ["_law_names_here", "_law_some"] f28 _ := ⟨F_anyH, PySem.W.mg_of X G a28, B_anyH⟩
  have F_isD := fun_mk (st := sIs) l29 c29 k29
  have B_isD := F_isD.binds (ps := ["_law_found", "_law_due"]) fun _ _ _ _ _ _ us hl => match us, hl with | [_, _], _ => rfl
  have D_isD : Df K mg "_law_is" sIs ["_law_found", "_law_due"] f29 _ := ⟨F_isD, PySem.W.mg_of X G a29, B_isD⟩
  have F_pair := fun_mk (st := sPair) l30 c30 k30
  have B_pair := F_pair.binds (ps := ["_law_web_here", "_law_names_here", "_law_cuts_here", "_law_one", "_law_other"]) fun _ _ _ _ _ _ us hl => match us, hl with | [_, _, _, _, _], _ => rfl
  have D_pair : Df K mg "_law_pair_right" sPair ["_law_web_here", "_law_names_here", "_law_cuts_here", "_law_one", "_law_other"] f30 _ := ⟨F_pair, PySem.W.mg_of X G a30, B_pair⟩
  have F_tieR := fun_mk (st := sTieR) l31 c31 k31
  have B_tieR := F_tieR.binds (ps := ["_law_web_here", "_law_names_here", "_law_ties", "_law_cuts_here", "_law_k"]) fun _ _ _ _ _ _ us hl => match us, hl with | [_, _, _, _, _], _ => rfl
  have D_tieR : Df K mg "_law_tie_right" sTieR ["_law_web_here", "_law_names_here", "_law_ties", "_law_cuts_here", "_law_k"] f31 _ := ⟨F_tieR, PySem.W.mg_of X G a31, B_tieR⟩
  have F_far := fun_mk (st := sFar) l32 c32 k32
  have B_far := F_far.binds (ps := ["_law_ties", "_law_one"]) fun _ _ _ _ _ _ us hl => match us, hl with | [_, _], _ => rfl
  have D_far : Df K mg "_law_far" sFar ["_law_ties", "_law_one"] f32 _ := ⟨F_far, PySem.W.mg_of X G a32, B_far⟩
  have F_flood := fun_mk (st := sFlood) l33 c33 k33
  have B_flood := F_flood.binds (ps := ["_law_web_here", "_law_names_here", "_law_far_here", "_law_near", "_law_one", "_law_other"]) fun _ _ _ _ _ _ us hl => match us, hl with | [_, _, _, _, _, _], _ => rfl
  have D_flood : Df K mg "_law_flood_right" sFlood ["_law_web_here", "_law_names_here", "_law_far_here", "_law_near", "_law_one", "_law_other"] f33 _ := ⟨F_flood, PySem.W.mg_of X G a33, B_flood⟩
  have F_floods := fun_mk (st := sFloods) l34 c34 k34
  have B_floods := F_floods.binds (ps := ["_law_web_here", "_law_names_here", "_law_ties"]) fun _ _ _ _ _ _ us hl => match us, hl with | [_, _, _], _ => rfl
  have D_floods : Df K mg "_law_floods_right" sFloods ["_law_web_here", "_law_names_here", "_law_ties"] f34 _ := ⟨F_floods, PySem.W.mg_of X G a34, B_floods⟩
  have F_law := fun_mk (st := sLaw) l35 c35 k35
  have mg_E1 := PySem.W.mg_of X G xE1
  have Ex_E1 : Ex K mg "NoTie" E1 := ⟨mg_E1, _, _, _, _, yE1, PySem.F.excBase_ValueError⟩
  have Xc_E1 : ExcCl K E1 := ⟨zE1_0, zE1_1, zE1_2, zE1_3, zE1_4, zE1_5⟩
  have mg_E2 := PySem.W.mg_of X G xE2
  have Ex_E2 : Ex K mg "NoPlace" E2 := ⟨mg_E2, _, _, _, _, yE2, PySem.F.excBase_ValueError⟩
  have Xc_E2 : ExcCl K E2 := ⟨zE2_0, zE2_1, zE2_2, zE2_3, zE2_4, zE2_5⟩
  have m_divmod := PySem.W.mg_none_of X G g_divmod
  have m_len := PySem.W.mg_none_of X G g_len
  have m_all := PySem.W.mg_none_of X G g_all
  have m_isinstance := PySem.W.mg_none_of X G g_isinstance
  have m_str := PySem.W.mg_none_of X G g_str
  have m_range := PySem.W.mg_none_of X G g_range
  have m_max := PySem.W.mg_none_of X G g_max
  have m_min := PySem.W.mg_none_of X G g_min
  have m_bool := PySem.W.mg_none_of X G g_bool
  have m_list := PySem.W.mg_none_of X G g_list
  have m_int := PySem.W.mg_none_of X G g_int
  have m_tuple := PySem.W.mg_none_of X G g_tuple
  have m_set := PySem.W.mg_none_of X G g_set
  have m_sorted := PySem.W.mg_none_of X G g_sorted
  have m_abs := PySem.W.mg_none_of X G g_abs
  have m_dict := PySem.W.mg_none_of X G g_dict
  have m_enumerate := PySem.W.mg_none_of X G g_enumerate
  have m_LONGEST := PySem.W.mg_of X G g_LONGEST
  have m_MOST_PLACES := PySem.W.mg_of X G g_MOST_PLACES
  have m_MOST_TIES := PySem.W.mg_of X G g_MOST_TIES
  have T : Glb mg := ⟨m_divmod, m_len, m_all, m_isinstance, m_str, m_range, m_max, m_min, m_bool, m_list, m_int, m_tuple, m_set, m_sorted, ⟨_, m_LONGEST⟩, ⟨_, m_MOST_PLACES⟩, ⟨_, m_MOST_TIES⟩⟩
  have M := Mt.mk W F_places Mm_places B_places F_ties Mm_ties B_ties
  have D := Rd.mk M F_tieM Mm_tieM B_tieM D_whole D_among D_chkPl D_leads D_spread D_reached D_turned D_reachers Ex_E1 Ex_E2
  have L := Ld.mk D_least D_greatest D_leastOf D_allH D_anyH D_isD
  have B := Dw.mk D_pot D_take D_word D_names D_ltie D_web m_abs m_dict m_enumerate
  exact ⟨PySem.W.fnOf "law" "law" (defArgs sLaw) (defBody sLaw) (defScope sLaw) .none kV35 dc35 pm35 an35 cd35 ct35, fun s v => .of_eq rfl, fun base _ _ => ok_law F_law B D_name D_tie D_chkP D_chkT F_init MkC B_init D L D_cuts D_pair D_tieR D_far D_flood D_floods T⟩
theorem walk {l : PySem.W.OpenLaw} {q : Program} {loose : List Str} {XP : (Str → Option Value) → Heap → Prop} {YP : World → Heap → Prop} {d : DefRec} {K : Params → PySem.W.Frag} (hn : l.most = some 63) (hdf : d.params.defaults = [])
    (hY : ∀ (w : World) (h : Heap), YP w h → (K w.params).In h)
    (F : ∀ (w : World) (mg : Str → Option Value) (fa : Addr) (h : Heap), (K w.params).In h → h.Ns mainGlobals mg → mg d.name = some (.ref fa) →
      ∃ fd : FuncData, (∀ (s : Shared) (u : Value), BindsTo s fd ⟨[u], []⟩ [("_law_script", u)]) ∧ ∀ base : Heap, (K w.params).In base → base.Ns mainGlobals mg → FnOk l.prog w (K w.params) mg base CX0 7 fa fd ["_law_script"] (spLaw (K w.params))) :
    PySem.W.WalkO q loose XP YP l.row.toRowW d [] (fun f vs => PySem.call f vs) :=
  L2.walk_of (n := 63) (k := 7) (x := "_law_script") (CX := fun _ => CX0) (sp := fun w => spLaw (K w.params)) hn (by decide) hdf ⟨rfl, by decide, by decide⟩ hY F (fun _ _ a ns hl _ hS => ⟨a, ns, rfl, hS, hl, fun _ => rfl⟩) fun _ _ _ _ _ z => z
end K23
open PySem PySem.W PyProof.Rows
set_option maxRecDepth 100000 in
set_option maxHeartbeats 0 in
theorem PySem.Challenge.cw_cutmeet_k23_least_and_greatest_holds : PySem.Challenge.rw_cutmeet_k23_least_and_greatest.Holds := by
  w_on; o_law; k_head; (case hw => w_witness2)
  k_fill
  refine K23.walk (l := PySem.Challenge.rw_cutmeet_k23_least_and_greatest) rfl rfl (fun w h Y => PySem.W.kIn_of Y) ?F
  case F =>
    intro w mg fa h KX G hmg
    refine' K23.all_mk KX G hmg ?aC ?a1 ?i1 ?l1 ?c1 ?k1 ?a2 ?i2 ?l2 ?c2 ?k2 ?a3 ?i3 ?l3 ?c3 ?k3 ?a4 ?i4 ?l4 ?c4 ?k4 ?pg ?hd ?po ?sa ?mk ?kc ?nA0 ?nA1 ?a5 ?l5 ?c5 ?k5 ?a6 ?l6 ?c6 ?k6 ?a7 ?l7 ?c7 ?k7 ?a8 ?l8 ?c8 ?k8 ?a9 ?l9 ?c9 ?k9 ?a10 ?l10 ?c10 ?k10 ?a11 ?l11 ?c11 ?k11 ?a12 ?l12 ?c12 ?k12 ?a13 ?l13 ?c13 ?k13 ?a14 ?l14 ?c14 ?k14 ?a15 ?l15 ?c15 ?k15 ?a16 ?l16 ?c16 ?k16 ?a17 ?l17 ?c17 ?k17 ?a18 ?l18 ?c18 ?k18 ?a19 ?l19 ?c19 ?k19 ?a20 ?l20 ?c20 ?k20 ?a21 ?l21 ?c21 ?k21 ?a22 ?l22 ?c22 ?k22 ?a23 ?l23 ?c23 ?k23 ?a24 ?l24 ?c24 ?k24 ?a25 ?l25 ?c25 ?k25 ?a26 ?l26 ?c26 ?k26 ?a27 ?l27 ?c27 ?k27 ?a28 ?l28 ?c28 ?k28 ?a29 ?l29 ?c29 ?k29 ?a30 ?l30 ?c30 ?k30 ?a31 ?l31 ?c31 ?k31 ?a32 ?l32 ?c32 ?k32 ?a33 ?l33 ?c33 ?k33 ?a34 ?l34 ?c34 ?k34 ?a35 ?l35 ?c35 ?k35 ?xE1 ?yE1 ?zE1_0 ?zE1_1 ?zE1_2 ?zE1_3 ?zE1_4 ?zE1_5 ?xE2 ?yE2 ?zE2_0 ?zE2_1 ?zE2_2 ?zE2_3 ?zE2_4 ?zE2_5 ?g_divmod ?g_len ?g_all ?g_isinstance ?g_str ?g_range ?g_max ?g_min ?g_bool ?g_list ?g_int ?g_tuple ?g_set ?g_sorted ?g_abs ?g_dict ?g_enumerate ?g_LONGEST ?g_MOST_PLACES ?g_MOST_TIES
    (case aC => k_is)
    (case a1 => k_is)
    (case i1 => k_is)
    (case l1 => k_is)
    (case c1 => k_is)
    (case k1 => k_is)
    (case a2 => k_is)
    (case i2 => k_is)
    (case l2 => k_is)
    (case c2 => k_is)
    (case k2 => k_is)
    (case a3 => k_is)
    (case i3 => k_is)
    (case l3 => k_is)
    (case c3 => k_is)
    (case k3 => k_is)
    (case a4 => k_is)
    (case i4 => k_is)
    (case l4 => k_is)
    (case c4 => k_is)
    (case k4 => k_is)
    (case pg => k_is)
    (case hd => k_is)
    (case po => k_is)
    (case sa => k_is)
    (case mk => k_is)
    (case kc => k_is)
    (case nA0 => k_is)
    (case nA1 => k_is)
    (case a5 => k_is)
    (case l5 => k_is)
    (case c5 => k_is)
    (case k5 => k_is)
    (case a6 => k_is)
    (case l6 => k_is)
    (case c6 => k_is)
    (case k6 => k_is)
    (case a7 => k_is)
    (case l7 => k_is)
    (case c7 => k_is)
    (case k7 => k_is)
    (case a8 => k_is)
    (case l8 => k_is)
    (case c8 => k_is)
    (case k8 => k_is)
    (case a9 => k_is)
    (case l9 => k_is)
    (case c9 => k_is)
    (case k9 => k_is)
    (case a10 => k_is)
    (case l10 => k_is)
    (case c10 => k_is)
    (case k10 => k_is)
    (case a11 => k_is)
    (case l11 => k_is)
    (case c11 => k_is)
    (case k11 => k_is)
    (case a12 => k_is)
    (case l12 => k_is)
    (case c12 => k_is)
    (case k12 => k_is)
    (case a13 => k_is)
    (case l13 => k_is)
    (case c13 => k_is)
    (case k13 => k_is)
    (case a14 => k_is)
    (case l14 => k_is)
    (case c14 => k_is)
    (case k14 => k_is)
    (case a15 => k_is)
    (case l15 => k_is)
    (case c15 => k_is)
    (case k15 => k_is)
    (case a16 => k_is)
    (case l16 => k_is)
    (case c16 => k_is)
    (case k16 => k_is)
    (case a17 => k_is)
    (case l17 => k_is)
    (case c17 => k_is)
    (case k17 => k_is)
    (case a18 => k_is)
    (case l18 => k_is)
    (case c18 => k_is)
    (case k18 => k_is)
    (case a19 => k_is)
    (case l19 => k_is)
    (case c19 => k_is)
    (case k19 => k_is)
    (case a20 => k_is)
    (case l20 => k_is)
    (case c20 => k_is)
    (case k20 => k_is)
    (case a21 => k_is)
    (case l21 => k_is)
    (case c21 => k_is)
    (case k21 => k_is)
    (case a22 => k_is)
    (case l22 => k_is)
    (case c22 => k_is)
    (case k22 => k_is)
    (case a23 => k_is)
    (case l23 => k_is)
    (case c23 => k_is)
    (case k23 => k_is)
    (case a24 => k_is)
    (case l24 => k_is)
    (case c24 => k_is)
    (case k24 => k_is)
    (case a25 => k_is)
    (case l25 => k_is)
    (case c25 => k_is)
    (case k25 => k_is)
    (case a26 => k_is)
    (case l26 => k_is)
    (case c26 => k_is)
    (case k26 => k_is)
    (case a27 => k_is)
    (case l27 => k_is)
    (case c27 => k_is)
    (case k27 => k_is)
    (case a28 => k_is)
    (case l28 => k_is)
    (case c28 => k_is)
    (case k28 => k_is)
    (case a29 => k_is)
    (case l29 => k_is)
    (case c29 => k_is)
    (case k29 => k_is)
    (case a30 => k_is)
    (case l30 => k_is)
    (case c30 => k_is)
    (case k30 => k_is)
    (case a31 => k_is)
    (case l31 => k_is)
    (case c31 => k_is)
    (case k31 => k_is)
    (case a32 => k_is)
    (case l32 => k_is)
    (case c32 => k_is)
    (case k32 => k_is)
    (case a33 => k_is)
    (case l33 => k_is)
    (case c33 => k_is)
    (case k33 => k_is)
    (case a34 => k_is)
    (case l34 => k_is)
    (case c34 => k_is)
    (case k34 => k_is)
    (case a35 => k_is)
    (case l35 => k_is)
    (case c35 => k_is)
    (case k35 => k_is)
    (case xE1 => k_is)
    (case yE1 => k_exc)
    (case zE1_0 => k_is)
    (case zE1_1 => k_is)
    (case zE1_2 => k_is)
    (case zE1_3 => k_is)
    (case zE1_4 => k_is)
    (case zE1_5 => k_is)
    (case xE2 => k_is)
    (case yE2 => k_exc)
    (case zE2_0 => k_is)
    (case zE2_1 => k_is)
    (case zE2_2 => k_is)
    (case zE2_3 => k_is)
    (case zE2_4 => k_is)
    (case zE2_5 => k_is)
    (case g_divmod => k_is)
    (case g_len => k_is)
    (case g_all => k_is)
    (case g_isinstance => k_is)
    (case g_str => k_is)
    (case g_range => k_is)
    (case g_max => k_is)
    (case g_min => k_is)
    (case g_bool => k_is)
    (case g_list => k_is)
    (case g_int => k_is)
    (case g_tuple => k_is)
    (case g_set => k_is)
    (case g_sorted => k_is)
    (case g_abs => k_is)
    (case g_dict => k_is)
    (case g_enumerate => k_is)
    (case g_LONGEST => k_is)
    (case g_MOST_PLACES => k_is)
    (case g_MOST_TIES => k_is)



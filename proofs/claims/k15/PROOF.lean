import PyProof.Rows.All
import Wide.All
import OpenK.AllK
import Wide.FinOn
import Lean
import PyProof.EqAt
import PyProof.EqKinds
import PyProof.TupleCall
import PyProof.NeKinds
import PyProof.DictCompW
import KE.KDictSum
import PyProof.EnumFor
import PyProof.EnumMake
import PyProof.EnumStmt
import KE.KRevSl
import PySem.Challenge.RW_cutmeet_k15_ways
set_option Elab.async false
set_option linter.all false
set_option maxRecDepth 100000
/-! THE HAND LAYER, for ints, bools, texts, own classes, LISTS and tuples (index, slices, in, append, pop ..), calls, loops. Paste it whole ahead of your own text; what your proof does not reach may be deleted. -/
namespace L2
open PySem PySem.Spec PyProof.Rows

/-- a key: an int or a str -/
abbrev Key := Sum Int Str
def keyIs : Key → Value → Bool
  | .inl k, v => Value.isInt k v
  | .inr x, v => Value.isStrOf x v
def keyH (w : World) : Key → Int
  | .inl k => hashInt k
  | .inr x => hashStr w x
theorem keyIs_shape : ∀ {k : Key} {v : Value}, keyIs k v = true → (∃ i t, k = Sum.inl i ∧ v = Value.int i t) ∨ (∃ x t, k = Sum.inr x ∧ v = Value.str x t)
  | .inl i, v, h => by
    obtain ⟨t, e⟩ := Value.isInt_shape (k := i) (v := v) h
    exact .inl ⟨i, t, rfl, e⟩
  | .inr x, v, h => by
    obtain ⟨t, e⟩ := Value.isStrOf_shape (x := x) (v := v) h
    exact .inr ⟨x, t, rfl, e⟩
theorem keyIs_int (i : Int) (t : Tok) : keyIs (.inl i) (.int i t) = true := by simp [keyIs, Value.isInt]
theorem keyIs_str (x : Str) (t : Tok) : keyIs (.inr x) (.str x t) = true := by simp [keyIs, Value.isStrOf]
theorem key_ll (a b : Int) : decide ((Sum.inl a : Key) = Sum.inl b) = (a == b) := by
  by_cases e : a = b
  · subst e; simp
  · have h : ¬ (Sum.inl a : Key) = Sum.inl b := fun q => e (Sum.inl.inj q)
    rw [decide_eq_false h]
    exact (beq_eq_false_iff_ne.mpr e).symm
theorem key_rr (a b : Str) : decide ((Sum.inr a : Key) = Sum.inr b) = decide (a = b) := by
  by_cases e : a = b
  · subst e; simp
  · have h : ¬ (Sum.inr a : Key) = Sum.inr b := fun q => e (Sum.inr.inj q)
    rw [decide_eq_false h, decide_eq_false e]
theorem key_lr (a : Int) (b : Str) : decide ((Sum.inl a : Key) = Sum.inr b) = false := decide_eq_false (fun q => nomatch q)
theorem key_rl (a : Str) (b : Int) : decide ((Sum.inr a : Key) = Sum.inl b) = false := decide_eq_false (fun q => nomatch q)

def mixKind (prog : Program) (w : World) : PySem.KeyKind prog w Key where
  is := keyIs
  hash := keyH w
  inj := fun v a b ha hb => by
    rcases keyIs_shape ha with ⟨i, t, rfl, rfl⟩ | ⟨x, t, rfl, rfl⟩
    · rcases keyIs_shape hb with ⟨j, u, rfl, e⟩ | ⟨y, u, rfl, e⟩
      · injection e with e1 _; rw [e1]
      · exact nomatch e
    · rcases keyIs_shape hb with ⟨j, u, rfl, e⟩ | ⟨y, u, rfl, e⟩
      · exact nomatch e
      · injection e with e1 _; rw [e1]
  byValue := fun k v h => by
    rcases keyIs_shape h with ⟨i, t, rfl, rfl⟩ | ⟨x, t, rfl, rfl⟩ <;> rfl
  pyHash := fun hv h => by
    rcases keyIs_shape hv with ⟨i, t, rfl, rfl⟩ | ⟨x, t, rfl, rfl⟩
    · exact wpAny_pyHash_int h
    · exact wpAny_pyHash_str h
  eqBool := fun hu hv h => by
    rcases keyIs_shape hu with ⟨i, t, rfl, rfl⟩ | ⟨x, t, rfl, rfl⟩
    · rcases keyIs_shape hv with ⟨j, u, rfl, rfl⟩ | ⟨y, u, rfl, rfl⟩
      · rw [key_ll] at h; exact wpAny_eqBool_int h
      · rw [key_lr] at h; exact SeqAt.EqAt.int_str i t y u _ _ _ _ h
    · rcases keyIs_shape hv with ⟨j, u, rfl, rfl⟩ | ⟨y, u, rfl, rfl⟩
      · rw [key_rl] at h; exact SeqAt.EqAt.str_int x t j u _ _ _ _ h
      · rw [key_rr] at h; exact wpAny_eqBool_str h
  «strs» := fun k x t v h => by
    rcases keyIs_shape h with ⟨i, u, rfl, e⟩ | ⟨y, u, rfl, e⟩
    · exact nomatch e
    · injection e with e1 _
      subst e1
      cases v <;> rfl

theorem mixKind_is (prog : Program) (w : World) (k : Key) (v : Value) : (mixKind prog w).is k v = keyIs k v := rfl
theorem mixKind_int (prog : Program) (w : World) (i : Int) (t : Tok) : (mixKind prog w).is (.inl i) (.int i t) = true := keyIs_int i t
theorem mixKind_str (prog : Program) (w : World) (x : Str) (t : Tok) : (mixKind prog w).is (.inr x) (.str x t) = true := keyIs_str x t
end L2

namespace L2
open PySem PySem.Spec PyProof.Rows

/-- a value, without the heap -/
inductive V where
  | non | bl (b : Bool) | int (i : Int) | str (x : Str) | byt (b : Array UInt8) | flt (b : UInt64) | ref (a : Addr) | ty (n : String)
  deriving DecidableEq

def RelV : V → Value → Prop
  | .non, u => u = Value.none
  | .bl b, u => u = Value.bool b
  | .int i, u => ∃ t, u = Value.int i t
  | .str x, u => ∃ t, u = Value.str x t
  | .byt b, u => ∃ t, u = Value.bytes b t
  | .flt b, u => ∃ t, u = Value.float b t
  | .ref a, u => u = Value.ref a
  | .ty n, u => u = Value.type n

abbrev Vals : List V → List Value → Prop := Paired RelV
theorem Vals.length {xs : List V} {us : List Value} (r : Vals xs us) : xs.length = us.length := Paired.length r
theorem Vals.get : ∀ {xs : List V} {us : List Value} {i : Nat} {x : V}, Vals xs us → xs[i]? = some x → ∃ u, us[i]? = some u ∧ RelV x u
  | _, _, _, _, .nil, e => by simp at e
  | _, _, 0, _, .cons r _, e => by simp at e; subst e; exact ⟨_, rfl, r⟩
  | _, _, i + 1, x, .cons _ t, e => by
    obtain ⟨u, h1, h2⟩ := Vals.get (i := i) (x := x) t (by simpa using e)
    exact ⟨u, by simpa using h1, h2⟩
theorem Vals.set {x : V} {u : Value} (r : RelV x u) : ∀ {xs : List V} {us : List Value} (i : Nat), Vals xs us → Vals (xs.set i x) (us.set i u)
  | _, _, _, .nil => .nil
  | _, _, 0, .cons _ t => .cons r t
  | _, _, i + 1, .cons q t => .cons q (Vals.set r i t)
theorem Vals.append : ∀ {xs ys : List V} {us ws : List Value}, Vals xs us → Vals ys ws → Vals (xs ++ ys) (us ++ ws)
  | _, _, _, _, .nil, s => s
  | _, _, _, _, .cons r t, s => .cons r (Vals.append t s)
theorem Vals.take : ∀ {xs : List V} {us : List Value} (n : Nat), Vals xs us → Vals (xs.take n) (us.take n)
  | _, _, 0, _ => .nil
  | _, _, _ + 1, .nil => .nil
  | _, _, n + 1, .cons r t => .cons r (Vals.take n t)
theorem Vals.drop : ∀ {xs : List V} {us : List Value} (n : Nat), Vals xs us → Vals (xs.drop n) (us.drop n)
  | _, _, 0, r => r
  | _, _, _ + 1, .nil => .nil
  | _, _, n + 1, .cons _ t => Vals.drop n t
theorem Vals.none_of : ∀ {xs : List V} {us : List Value} {i : Nat}, Vals xs us → xs[i]? = none → us[i]? = none := fun {xs us i} r e => by
  have h1 := r.length
  have h2 : xs.length ≤ i := List.getElem?_eq_none_iff.mp e
  exact List.getElem?_eq_none_iff.mpr (by omega)

def RelO : Option V → Option Value → Prop
  | some v, some u => RelV v u
  | none, none => True
  | _, _ => False
def KV {κ : Type} : List (κ × V) → List (κ × Value) → Prop := Paired fun (p : κ × V) (q : κ × Value) => p.1 = q.1 ∧ RelV p.2 q.2

/-- a key of a dict (00_mix): an int or a text -/
def kV : Key → V
  | .inl i => .int i
  | .inr x => .str x

/-- what stands at a tracked address -/
inductive HO where
  /-- a list -/
  | lst (xs : List V)
  /-- a tuple (never changes) -/
  | tup (xs : List V)
  /-- a dict whose keys are ints and texts; one whose keys are tuples of ints and texts (the empty one is both) -/
  | dK (kvs : List (Key × V)) | dT (kvs : List (List Key × V))
  /-- a set of ints: its members, its size -/
  | set (S : Int → Bool) (n : Nat)
  /-- an instance of the class at C, its dict at dx, its attributes -/
  | ins (C dx : Addr) (fs : List (Str × V))
  /-- the dict of the instance at x -/
  | own (x : Addr)
  /-- the dict of an exception -/
  | xd (fs : List (Str × V))
  /-- a bound method, f of x -/
  | met (f x : Addr)
  /-- a range object lo, lo + 1, .. below hi -/
  | rng (lo hi : Int)
  /-- a thing that is known to the object (the script; a dict while a loop walks it): read, never written while it is so -/
  | frz (o : Obj) (u : HO)
  /-- a code object's table -/
  | tbl (ps : Array Value)
  /-- any other thing, by what is true of its one object (a def of one's own: SetO a S n := HO.ext fun h => ..) -/
  | ext (φ : Heap → Prop)

abbrev Hp := Addr → Option HO
def upd (H : Hp) (a : Addr) (o : HO) : Hp := fun b => if b = a then some o else H b
theorem upd_same {H : Hp} {a : Addr} {o : HO} : upd H a o a = some o := by unfold upd; rw [if_pos rfl]
theorem upd_ne {H : Hp} {a b : Addr} {o : HO} (h : b ≠ a) : upd H a o b = H b := by unfold upd; rw [if_neg h]
theorem upd_upd {H : Hp} {a : Addr} {o u : HO} : upd (upd H a o) a u = upd H a u := by
  funext b; unfold upd; split <;> rfl
/-- two objects of different content stand apart -/
theorem ne_of {H : Hp} {a b : Addr} {o u : HO} (h : H a = some o) (h' : H b = some u) (d : o ≠ u) : a ≠ b := by
  intro e; subst e; rw [h] at h'; exact d (Option.some.inj h')
theorem ne_of_none {H : Hp} {a b : Addr} {o : HO} (h : H a = some o) (h' : H b = none) : a ≠ b := by
  intro e; subst e; rw [h] at h'; cases h'

section
variable (P : Program) (w : World)
def ObjOk (H : Hp) (h : Heap) (a : Addr) : HO → Prop
  | .lst xs => xs.length ≤ sizeLine ∧ ∃ (its : List Value) (n : Nat), Vals xs its ∧ h.get? a = some { cls := .type "list", data := .seq its.toArray n }
  | .tup xs => xs.length ≤ sizeLine ∧ ∃ its : List Value, Vals xs its ∧ IsTup h a its.toArray
  | .dK kvs => kvs.length ≤ sizeLine ∧ (a == sysModules) = false ∧ ∃ vs, KV kvs vs ∧ h.DictOf (mixKind P w) a vs
  | .dT kvs => kvs.length ≤ sizeLine ∧ (a == sysModules) = false ∧ ∃ xs : List (List Key × Addr × Value),
      Paired (fun (p : List Key × V) (q : List Key × Addr × Value) => p.1 = q.1 ∧ H q.2.1 = some (.tup (p.1.map kV)) ∧ RelV p.2 q.2.2) kvs xs ∧
      ∃ o es ep, h.get? a = some o ∧ o.ExactDict ∧ o.data = .dict es ep ∧ es.toList = xs.map (entryOfKey (tupleKind (mixKind P w))) ∧ (xs.map (·.1)).Nodup
  | .set S n => h.SetOf (intKind P w) a S n
  | .ins C dx fs => H dx = some (.own a) ∧ fs.length ≤ 1000 ∧ dx ≠ a ∧ h.get? a = some (PySem.W.instObj C dx) ∧
      ∃ mA, h.Ns1 dx mA ∧ (∀ f, RelO (fs.lookup f) (mA f)) ∧ PySem.Within mA (fs.map (·.1))
  | .own _ => ∃ o, h.get? a = some o
  | .xd fs => ∃ mA, h.Ns1 a mA ∧ ∀ f, RelO (fs.lookup f) (mA f)
  | .rng lo hi => ∃ t u v, h.get? a = some { cls := .type "range", data := .fields #[.int lo t, .int hi u, .int 1 v] }
  | .frz o u => h.get? a = some o ∧ ObjOk H h a u
  | .tbl ps => h.get? a = some { cls := .none, data := .fields ps }
  | .met f x => h.get? a = some (PySem.W.methodObj (.ref f) (.ref x))
  | .ext φ => φ h ∧ (∃ o, h.get? a = some o) ∧ ∀ h1 h2 : Heap, φ h1 → (∀ o, h1.get? a = some o → h2.get? a = some o) → φ h2
/-- the abstract heap is held -/
def HOk (H : Hp) (h : Heap) : Prop := ∀ a o, H a = some o → ObjOk P w H h a o
end

section
variable {P : Program} {w : World} {H H' : Hp} {h h' : Heap} {a : Addr} {o : HO}
theorem ObjOk.lt (x : ObjOk P w H h a o) : a < h.objs.size := by
  cases o with
  | lst xs => obtain ⟨_, _, _, _, e⟩ := x; exact Heap.lt_size e
  | tup xs => obtain ⟨_, _, _, p⟩ := x; exact p.lt
  | dK kvs => obtain ⟨_, _, _, _, o, _, _, e, _⟩ := x; exact Heap.lt_size e
  | dT kvs => obtain ⟨_, _, _, _, o, _, _, e, _⟩ := x; exact Heap.lt_size e
  | set S n => obtain ⟨o, _, _, _, e, _⟩ := x; exact Heap.lt_size e
  | ins C dx fs => obtain ⟨_, _, _, e, _⟩ := x; exact Heap.lt_size e
  | own y => obtain ⟨_, e⟩ := x; exact Heap.lt_size e
  | xd fs => obtain ⟨_, ⟨_, _, _, e, _⟩, _⟩ := x; exact Heap.lt_size e
  | rng lo hi => obtain ⟨_, _, _, e⟩ := x; exact Heap.lt_size e
  | frz ob u => obtain ⟨e, _⟩ := x; exact Heap.lt_size e
  | tbl ps => exact Heap.lt_size (show h.get? a = some _ from x)
  | met f y => exact Heap.lt_size (show h.get? a = some _ from x)
  | ext φ => obtain ⟨_, ⟨_, e⟩, _⟩ := x; exact Heap.lt_size e
theorem Paired.mapP {α β : Type} {F G : α → β → Prop} : ∀ {l₁ : List α} {l₂ : List β}, Paired F l₁ l₂ → (∀ a b, F a b → G a b) → Paired G l₁ l₂
  | _, _, .nil, _ => .nil
  | _, _, .cons r t, f => .cons (f _ _ r) (Paired.mapP t f)
theorem Paired.imp' {α β : Type} {F G : α → β → Prop} (f : ∀ a b, F a b → G a b) {l₁ : List α} {l₂ : List β} (r : Paired F l₁ l₂) : Paired G l₁ l₂ := Paired.mapP r f
/-- what an object's description leans on: its own object, its own dict, the tuples -/
theorem ObjOk.stay (x : ObjOk P w H h a o) (k : ∀ b u, (b = a ∨ H b = some (.own a)) → h.get? b = some u → h'.get? b = some u)
    (ho : ∀ b, H b = some (.own a) → H' b = some (.own a)) (ht : ∀ b xs, H b = some (.tup xs) → H' b = some (.tup xs)) : ObjOk P w H' h' a o := by
  induction o with
  | lst xs => obtain ⟨z, its, n, r, e⟩ := x; exact ⟨z, its, n, r, k _ _ (.inl rfl) e⟩
  | tup xs => obtain ⟨z, its, r, ob, e, c⟩ := x; exact ⟨z, its, r, ob, k _ _ (.inl rfl) e, c⟩
  | dK kvs => obtain ⟨z, y, vs, r, ob, es, ep, e, c⟩ := x; exact ⟨z, y, vs, r, ob, es, ep, k _ _ (.inl rfl) e, c⟩
  | dT kvs =>
    obtain ⟨z, y, xs, r, ob, es, ep, e, c⟩ := x
    exact ⟨z, y, xs, Paired.mapP r fun p q z => ⟨z.1, ht _ _ z.2.1, z.2.2⟩, ob, es, ep, k _ _ (.inl rfl) e, c⟩
  | set S n => obtain ⟨ob, es, ep, t, e, c⟩ := x; exact ⟨ob, es, ep, t, k _ _ (.inl rfl) e, c⟩
  | ins C dx fs =>
    obtain ⟨d, z, ne, e, mA, ⟨od, es, ep, e2, c⟩, r⟩ := x
    exact ⟨ho _ d, z, ne, k _ _ (.inl rfl) e, mA, ⟨od, es, ep, k _ _ (.inr d) e2, c⟩, r⟩
  | own y => obtain ⟨ob, e⟩ := x; exact ⟨ob, k _ _ (.inl rfl) e⟩
  | xd fs => obtain ⟨mA, ⟨od, es, ep, e, c⟩, r⟩ := x; exact ⟨mA, ⟨od, es, ep, k _ _ (.inl rfl) e, c⟩, r⟩
  | rng lo hi => obtain ⟨t, u, v, e⟩ := x; exact ⟨t, u, v, k _ _ (.inl rfl) e⟩
  | frz ob u ih => obtain ⟨e, q⟩ := x; exact ⟨k _ _ (.inl rfl) e, ih q⟩
  | tbl ps =>
    have e : h.get? a = some { cls := .none, data := .fields ps } := x
    show h'.get? a = some { cls := .none, data := .fields ps }
    exact k a _ (.inl rfl) e
  | met f y =>
    have e : h.get? a = some (PySem.W.methodObj (.ref f) (.ref y)) := x
    show h'.get? a = some (PySem.W.methodObj (.ref f) (.ref y))
    exact k a _ (.inl rfl) e
  | ext φ => obtain ⟨p, ⟨o, e⟩, st⟩ := x; exact ⟨st _ _ p fun o q => k _ _ (.inl rfl) q, ⟨o, k _ _ (.inl rfl) e⟩, st⟩
theorem HOk.lt (x : HOk P w H h) (e : H a = some o) : a < h.objs.size := (x a o e).lt
theorem HOk.fresh (x : HOk P w H h) (e : h.objs.size ≤ a) : H a = none := by
  cases q : H a with
  | none => rfl
  | some u => exact absurd (Nat.lt_of_lt_of_le (x.lt q) e) (Nat.lt_irrefl _)
/-- every object of the heap is kept -/
theorem HOk.kept (x : HOk P w H h) (k : ∀ b u, h.get? b = some u → h'.get? b = some u) : HOk P w H h' := fun a o e =>
  (x a o e).stay (fun b u _ q => k b u q) (fun _ q => q) fun _ _ q => q
/-- a new object is laid and tracked -/
theorem HOk.laid (x : HOk P w H h) (k : ∀ b u, h.get? b = some u → h'.get? b = some u) (hp : h.objs.size ≤ a) (new : ObjOk P w (upd H a o) h' a o) : HOk P w (upd H a o) h' := fun b u e => by
  have hn := x.fresh hp
  by_cases hb : b = a
  · subst hb; rw [upd_same] at e; cases e; exact new
  · rw [upd_ne hb] at e
    exact (x b u e).stay (fun c v _ q => k c v q) (fun c q => by rw [upd_ne (ne_of_none q hn)]; exact q) fun c xs q => by rw [upd_ne (ne_of_none q hn)]; exact q
end

/-- what may be read as u: it is u, or a known u -/
def Rd (H : Hp) (a : Addr) (u : HO) : Prop := H a = some u ∨ ∃ o, H a = some (.frz o u)
theorem Rd.of {H : Hp} {a : Addr} {u : HO} (h : H a = some u) : Rd H a u := .inl h
theorem Rd.ok {P : Program} {w : World} {H : Hp} {h : Heap} {a : Addr} {u : HO} (r : Rd H a u) (x : HOk P w H h) : ObjOk P w H h a u := by
  rcases r with r | ⟨o, r⟩
  · exact x a u r
  · obtain ⟨_, q⟩ := x a _ r
    exact q
/-- what may be written -/
def Mut : Option HO → Prop
  | some (.lst _) => True
  | some (.dK _) => True
  | some (.dT _) => True
  | some (.set _ _) => True
  | some (.ins _ _ _) => True
  | some (.ext _) => True
  | _ => False
section
variable {P : Program} {w : World} {H : Hp} {h h' : Heap} {x e : Addr} {o' : HO}
/-- the object at e is changed: x itself, or the dict of the instance x -/
theorem HOk.write (ok : HOk P w H h) (mu : Mut (H x)) (he : e = x ∨ H e = some (.own x)) (k : ∀ b u, b ≠ e → h.get? b = some u → h'.get? b = some u) (heo : ∃ u, h'.get? e = some u)
    (new : ObjOk P w (upd H x o') h' x o') : HOk P w (upd H x o') h' := fun b u q => by
  have nown : ∀ c y, H c = some (.own y) → c ≠ x := fun c y r z => by subst z; rw [r] at mu; exact mu
  have ntup : ∀ c xs, H c = some (.tup xs) → c ≠ x := fun c xs r z => by subst z; rw [r] at mu; exact mu
  by_cases hb : b = x
  · subst hb; rw [upd_same] at q; cases q; exact new
  · rw [upd_ne hb] at q
    by_cases hbe : b = e
    · have q' : H b = some (.own x) := by
        rcases he with z | z
        · exact absurd (hbe.trans z) hb
        · rw [hbe]; exact z
      rw [q] at q'; cases q'
      obtain ⟨v, hv⟩ := heo
      exact ⟨v, by rw [hbe]; exact hv⟩
    · refine (ok b u q).stay (fun c v hc r => k c v ?_ r) (fun c r => by rw [upd_ne (nown c b r)]; exact r) fun c xs r => by rw [upd_ne (ntup c xs r)]; exact r
      rcases hc with rfl | hc
      · exact hbe
      · rintro rfl
        rcases he with z | z
        · exact nown c b hc z
        · rw [hc] at z; cases z; exact hb rfl
end

/-! ### kept unless tracked; of the frames at fs (the callers') the slots may change (an exception that passes writes there); of the records at ex (iterators) nothing is said -/
structure Un (fs ex : List Addr) (H H' : Hp) (h h' : Heap) : Prop where
  keep : ∀ b o, h.get? b = some o → H b = none → b ∉ fs → b ∉ ex → h'.get? b = some o
  slot : ∀ b o, h.get? b = some o → H b = none → b ∈ fs → b ∉ ex → ∃ sl, h'.get? b = some { o with slots := sl }
  free : ∀ b o, h.get? b = some o → H b = none → b ∉ ex → H' b = none
  there : ∀ b o, h.get? b = some o → b ∉ ex → ∃ o', h'.get? b = some o'
  tups : ∀ b xs, H b = some (.tup xs) → H' b = some (.tup xs)
  frzs : ∀ b o u, H b = some (.frz o u) → H' b = some (.frz o u)
  tbls : ∀ b ps, H b = some (.tbl ps) → ∃ more, H' b = some (.tbl (ps ++ more))
section
variable {fs fs' ex ex' : List Addr} {H H1 H2 : Hp} {h h1 h2 h' : Heap} {a x e : Addr} {o : HO}
theorem Un.any (u : Un fs ex H H1 h h1) {b : Addr} {ob : Obj} (q : h.get? b = some ob) (n : H b = none) (hx : b ∉ ex) : ∃ sl, h1.get? b = some { ob with slots := sl } := by
  by_cases hb : b ∈ fs
  · exact u.slot b ob q n hb hx
  · exact ⟨ob.slots, u.keep b ob q n hb hx⟩
theorem Un.trans (a : Un fs ex H H1 h h1) (b : Un fs ex H1 H2 h1 h2) : Un fs ex H H2 h h2 where
  keep := fun c ob q n hc hx => b.keep c ob (a.keep c ob q n hc hx) (a.free c ob q n hx) hc hx
  slot := fun c ob q n hc hx => by
    obtain ⟨sl, e1⟩ := a.slot c ob q n hc hx
    obtain ⟨sl', e2⟩ := b.slot c _ e1 (a.free c ob q n hx) hc hx
    exact ⟨sl', e2⟩
  free := fun c ob q n hx => by
    obtain ⟨o', e1⟩ := a.there c ob q hx
    exact b.free c o' e1 (a.free c ob q n hx) hx
  there := fun c ob q hx => by
    obtain ⟨o', e1⟩ := a.there c ob q hx
    exact b.there c o' e1 hx
  tups := fun c xs q => b.tups c xs (a.tups c xs q)
  frzs := fun c ob xs q => b.frzs c ob xs (a.frzs c ob xs q)
  tbls := fun c ps q => by
    obtain ⟨m1, e1⟩ := a.tbls c ps q
    obtain ⟨m2, e2⟩ := b.tbls c _ e1
    exact ⟨m1 ++ m2, by rw [e2, Array.append_assoc]⟩
theorem Un.kept (k : ∀ b u, h.get? b = some u → h'.get? b = some u) : Un fs ex H H h h' :=
  ⟨fun b ob q _ _ _ => k b ob q, fun b ob q _ _ _ => ⟨ob.slots, k b ob q⟩, fun _ _ _ n _ => n, fun b ob q _ => ⟨ob, k b ob q⟩, fun _ _ q => q, fun _ _ _ q => q, fun _ ps q => ⟨#[], by rw [q]; simp⟩⟩
theorem Un.refl : Un fs ex H H h h := Un.kept fun _ _ q => q
theorem Un.laid (k : ∀ b u, h.get? b = some u → h'.get? b = some u) (hp : h.objs.size ≤ a) (hn : H a = none) : Un fs ex H (upd H a o) h h' where
  keep := fun b u q _ _ _ => k b u q
  slot := fun b u q _ _ _ => ⟨u.slots, k b u q⟩
  free := fun b u q n _ => by rw [upd_ne (Nat.ne_of_lt (Nat.lt_of_lt_of_le (Heap.lt_size q) hp))]; exact n
  there := fun b u q _ => ⟨u, k b u q⟩
  tups := fun b xs q => by rw [upd_ne (ne_of_none q hn)]; exact q
  frzs := fun b u xs q => by rw [upd_ne (ne_of_none q hn)]; exact q
  tbls := fun b ps q => ⟨#[], by rw [upd_ne (ne_of_none q hn), q]; simp⟩
theorem Un.write (mu : Mut (H x)) (he : e = x ∨ H e = some (.own x)) (k : ∀ b u, b ≠ e → h.get? b = some u → h'.get? b = some u) (heo : ∃ u, h'.get? e = some u) : Un fs ex H (upd H x o) h h' := by
  have hx : ∀ b, H b = none → b ≠ x := fun b n z => by subst z; rw [n] at mu; exact mu
  have hb : ∀ b, H b = none → b ≠ e := fun b n z => by
    subst z
    rcases he with r | r
    · exact hx b n r
    · rw [n] at r; cases r
  have hm : ∀ b u, H b = some u → ¬ Mut (some u) → b ≠ x := fun b u q nm z => by subst z; rw [q] at mu; exact nm mu
  refine ⟨fun b u q n _ _ => k b u (hb b n) q, fun b u q n _ _ => ⟨u.slots, k b u (hb b n) q⟩, fun b u q n _ => by rw [upd_ne (hx b n)]; exact n, fun b u q _ => ?_,
    fun b xs q => by rw [upd_ne (hm b _ q fun z => z)]; exact q, fun b u xs q => by rw [upd_ne (hm b _ q fun z => z)]; exact q, fun b ps q => ⟨#[], by rw [upd_ne (hm b _ q fun z => z), q]; simp⟩⟩
  by_cases hbe : b = e
  · subst hbe; exact heo
  · exact ⟨u, k b u hbe q⟩
theorem Un.mono (u : Un fs ex H H1 h h1) (hs : ∀ b ∈ fs, b ∈ fs') (hx : ∀ b ∈ ex, b ∈ ex') : Un fs' ex' H H1 h h1 :=
  ⟨fun b ob q n hb he => u.keep b ob q n (fun z => hb (hs b z)) fun z => he (hx b z), fun _ _ q n _ he => u.any q n fun z => he (hx _ z), fun b ob q n he => u.free b ob q n fun z => he (hx b z), fun b ob q he => u.there b ob q fun z => he (hx b z), u.tups, u.frzs, u.tbls⟩
end

/-! ### the heap without what is tracked -/
def trk (h : Heap) (H : Hp) : List Addr := (List.range h.objs.size).filter fun a => (H a).isSome
def hidT (h : Heap) (H : Hp) : Heap := PySem.W.hideAll h (trk h H)
theorem hidT_size (h : Heap) (H : Hp) : (hidT h H).objs.size = h.objs.size := PySem.W.hideAll_size _ _
theorem hidT_get {h : Heap} {H : Hp} {b : Addr} {o : Obj} (e : h.get? b = some o) (n : H b = none) : (hidT h H).get? b = some o :=
  PySem.W.hideAll_get _ e fun hm => by
    have q : (H b).isSome = true := (List.mem_filter.mp hm).2
    rw [n] at q; simp at q
theorem of_hidT {h : Heap} {H : Hp} {b : Addr} {o : Obj} (e : (hidT h H).get? b = some o) : h.get? b = some o ∧ H b = none := by
  have e' : h.get? b = some o := PySem.W.of_hideAll (trk h H) e
  refine ⟨e', ?_⟩
  cases q : H b with
  | none => rfl
  | some x =>
    have hm : b ∈ trk h H := List.mem_filter.mpr ⟨List.mem_range.mpr (Heap.lt_size e'), by simp [q]⟩
    have z : (hidT h H).get? b = none := PySem.W.hideAll_none (trk h H) hm
    rw [z] at e; cases e

/-! ### OpenK's ledger, filled with every new object but one -/
def allNews (g h : Heap) (L : Addr) : List (Addr × Obj) := (List.range h.objs.size).filterMap fun a => if a = L ∨ (g.get? a).isSome = true then none else (h.get? a).map fun o => (a, o)
theorem mem_allNews {g h : Heap} {L a : Addr} {o : Obj} (h1 : a ≠ L) (h2 : g.get? a = none) (h3 : h.get? a = some o) : (a, o) ∈ allNews g h L :=
  List.mem_filterMap.mpr ⟨a, List.mem_range.mpr (Heap.lt_size h3), by simp [h1, h2, h3]⟩
theorem of_mem_allNews {g h : Heap} {L : Addr} {p : Addr × Obj} (hp : p ∈ allNews g h L) : p.1 ≠ L ∧ g.get? p.1 = none ∧ h.get? p.1 = some p.2 := by
  obtain ⟨b, _, e⟩ := List.mem_filterMap.mp hp
  split at e
  · cases e
  · rename_i hn
    cases q : h.get? b with
    | none => rw [q] at e; simp at e
    | some u =>
      rw [q] at e
      simp only [Option.map_some, Option.some.injEq] at e
      subst e
      refine ⟨fun z => hn (.inl z), ?_, q⟩
      show g.get? b = none
      cases r : g.get? b with
      | none => rfl
      | some v => exact (hn (.inr (by simp [r]))).elim
def rest (g h : Heap) (L d : Addr) : List (Addr × Obj) := (allNews g h L).filter fun p => decide (p.1 ≠ d)
theorem rest_ne {g h : Heap} {L d : Addr} : ∀ p ∈ rest g h L d, p.1 ≠ d := fun p hp => of_decide_eq_true (List.mem_filter.mp hp).2
theorem mem_rest {g h : Heap} {L d a : Addr} {o : Obj} (h1 : a ≠ L) (h2 : g.get? a = none) (h3 : h.get? a = some o) (h4 : a ≠ d) : (a, o) ∈ rest g h L d :=
  List.mem_filter.mpr ⟨mem_allNews h1 h2 h3, decide_eq_true h4⟩
theorem news_all {g h : Heap} {L : Addr} : News g L h (allNews g h L) := fun p hp => let ⟨a, b, c⟩ := of_mem_allNews hp; ⟨c, a, b⟩
theorem news_at {g h : Heap} {L d : Addr} {o : Obj} (h1 : d ≠ L) (h2 : g.get? d = none) (h3 : h.get? d = some o) : News g L h ((d, o) :: rest g h L d) := fun p hp => by
  rcases List.mem_cons.mp hp with rfl | hp
  · exact ⟨h3, h1, h2⟩
  · exact news_all p (List.mem_filter.mp hp).1
/-- behind a rule that changed d alone: all else but the frame is kept -/
theorem kept_of_news {g h h' : Heap} {L d : Addr} {m : Str → Option Value} (k : ∀ b o, g.get? b = some o → h.get? b = some o) (F : Fr g L h' m) (N : News g L h' (rest g h L d)) :
    ∀ b o, b ≠ L → b ≠ d → h.get? b = some o → h'.get? b = some o := fun b o h1 h2 e => by
  cases q : g.get? b with
  | some u =>
    have := k b u q
    rw [e] at this; cases this
    exact F.keep b _ q
  | none => exact (N (b, o) (mem_rest h1 q e h2)).1
end L2

namespace L2
open PySem PySem.Spec PyProof.Rows

/-- the module's facts, over the base: the heap at the law's entry without what is tracked there -/
structure Mod (K : PySem.W.Frag) (mg : Str → Option Value) (base : Heap) : Prop where
  kin : K.In base
  glob : base.Ns mainGlobals mg
  blt : ∃ mb, base.Ns builtinsNs mb ∧ ∀ x : Str, x ≠ "__name__" → mb x = bootBuiltins x
  nolimit : base.NoLimit

/-- the context: a def's body (or a comprehension's block) running. base: fixed through the whole law; s₀, H₀: the entry; outer: the frames whose slots others may change (a def's callers); stack: all frames that run;
   ex: iterators that were made ahead of the entry and are walked here (a comprehension's); fn: the names whose cells were made at the entry (a def: all; a comprehension's block: its own); calm: not within an except suite; pn: pins that every state bears; xe: what is wanted of an exception that leaves the code -/
structure Cx where
  prog : Program
  w : World
  K : PySem.W.Frag
  mg : Str → Option Value
  base : Heap
  A : Around
  N : List Str
  s₀ : Shared
  H₀ : Hp
  env : Env
  outer : List Env
  stack : List Env
  ex : List Addr
  fn : Str → Bool
  calm : Bool
  pn : List (Addr × Obj)
  xe : Value → Shared → Prop
/-- the callers' frames -/
def frs (l : List Env) : List Addr := l.filterMap (·.frame)
abbrev Cx.fs (X : Cx) : List Addr := frs X.outer

def Vis (sc : Scope) (x : Str) : Prop := sc.names.lookup x = some .local ∨ sc.names.lookup x = some .cell ∨ sc.names.lookup x = some .free
def Loc (sc : Scope) (x : Str) : Prop := sc.names.lookup x = some .local ∨ sc.names.lookup x = some .cell
def Look (env : Env) (h : Heap) (m : Str → Option Value) (x : Str) (u : Value) : Prop :=
  (env.kindOf x = some .local ∧ m x = some u) ∨ ((env.kindOf x = some .cell ∨ env.kindOf x = some .free) ∧ ∃ c, env.cells.lookup x = some c ∧ h.IsCell c (some u))

structure Cx.Ok (X : Cx) : Prop where
  mod : Mod X.K X.mg X.base
  kind : X.env.scope.kind = .function
  glob : X.env.globals = mainGlobals
  blt : X.env.builtins = builtinsNs
  above : X.s₀.heap.objs.size ≤ X.env.locals
  inj : ∀ x y c, X.env.cells.lookup x = some c → X.env.cells.lookup y = some c → x = y
  has : ∀ x, (X.env.kindOf x = some .cell ∨ X.env.kindOf x = some .free) → ∃ c, X.env.cells.lookup x = some c
  cab : ∀ x c, X.fn x = true → X.env.cells.lookup x = some c → X.s₀.heap.objs.size ≤ c
  hd : X.calm = true → X.A.handled = none
  frames : X.A.frames = some X.stack
  stk : X.stack = X.outer ∨ (X.stack = X.env :: X.outer ∧ X.env.frame = some X.env.locals)
  exf : ∀ b ∈ X.ex, b ≠ X.env.locals ∧ ∀ x c, X.env.cells.lookup x = some c → c ≠ b
  bs : ∀ b o, X.base.get? b = some o → X.s₀.heap.get? b = some o ∧ X.H₀ b = none
  bsz : X.base.objs.size ≤ X.s₀.heap.objs.size
  noex : ∀ b o, X.base.get? b = some o → b ∉ X.ex
  exfs : ∀ b ∈ X.ex, b ∉ X.fs
  funs : X.s₀.heap.FunFrames X.base X.outer
  frf : ∀ b ∈ X.fs, X.H₀ b = none

structure Inv (X : Cx) (pins : List (Addr × Obj)) (σ : List (Option V)) (H : Hp) (s : Shared) : Prop where
  ok : X.Ok
  os : s.os = X.s₀.os
  bare : AllBare s.gens
  base : Un X.fs X.ex X.H₀ H X.s₀.heap s.heap
  loc : ∃ m, s.heap.Ns X.env.locals m ∧ ∀ (i : Nat) (x : Str) (v : V), X.N[i]? = some x → σ[i]? = some (some v) → Vis X.env.scope x → ∃ u, RelV v u ∧ Look X.env s.heap m x u
  cell : ∀ x c, X.env.cells.lookup x = some c → ∃ v, s.heap.IsCell c v
  free : H X.env.locals = none
  freeC : ∀ x c, X.env.cells.lookup x = some c → H c = none
  pin : ∀ p ∈ X.pn ++ pins, s.heap.get? p.1 = some p.2 ∧ H p.1 = none ∧ p.1 ≠ X.env.locals ∧ p.1 ∉ X.fs ∧ ∀ v, p.2.data ≠ .cell v
  hok : HOk X.prog X.w H s.heap
  len : σ.length = X.N.length

section
variable {X : Cx} {pins : List (Addr × Obj)} {σ : List (Option V)} {H H' : Hp} {s : Shared} {h' : Heap}

theorem Cx.Ok.nofr (ok : X.Ok) {b : Addr} {o : Obj} (e : X.base.get? b = some o) : b ∉ X.fs := fun hb => by
  have := (ok.funs.mem hb).1
  rw [e] at this; cases this
theorem Inv.bs (I : Inv X pins σ H s) : ∀ b o, X.base.get? b = some o → s.heap.get? b = some o ∧ H b = none := fun b o e =>
  ⟨I.base.keep b o (I.ok.bs b o e).1 (I.ok.bs b o e).2 (I.ok.nofr e) (I.ok.noex b o e), I.base.free b o (I.ok.bs b o e).1 (I.ok.bs b o e).2 (I.ok.noex b o e)⟩
theorem Inv.bk (I : Inv X pins σ H s) : ∀ b o, X.base.get? b = some o → s.heap.get? b = some o := fun b o e => (I.bs b o e).1
theorem Inv.mod (I : Inv X pins σ H s) : Mod X.K X.mg X.base := I.ok.mod
theorem Inv.kIn (I : Inv X pins σ H s) : X.K.In s.heap := I.ok.mod.kin.keeps I.bk
theorem Inv.nolimit (I : Inv X pins σ H s) : s.heap.NoLimit := I.ok.mod.nolimit.keeps I.bk
/-- the frame over the base: for OpenK's rules (K.In X.base is I.mod.kin) -/
theorem Inv.fr (I : Inv X pins σ H s) : ∃ m, Fr X.base X.env.locals s.heap m :=
  let ⟨m, hn, _⟩ := I.loc
  ⟨m, hn, I.bk, Nat.le_trans I.ok.bsz I.ok.above⟩
theorem Inv.lt (I : Inv X pins σ H s) : X.env.locals < s.heap.objs.size := let ⟨_, hn, _⟩ := I.loc; hn.lt
theorem Inv.sz (I : Inv X pins σ H s) : X.s₀.heap.objs.size ≤ s.heap.objs.size := Nat.le_trans I.ok.above (Nat.le_of_lt I.lt)
theorem Inv.nofs (I : Inv X pins σ H s) {a : Addr} (h : s.heap.objs.size ≤ a) : a ∉ X.fs := fun hb => by
  obtain ⟨_, o, ho, _⟩ := I.ok.funs.mem hb
  exact absurd (Nat.lt_of_lt_of_le (Heap.lt_size ho) (Nat.le_trans I.sz h)) (Nat.lt_irrefl _)
theorem Inv.cne (I : Inv X pins σ H s) : ∀ x c, X.env.cells.lookup x = some c → c ≠ X.env.locals := fun x c e z => by
  obtain ⟨v, o, ho, hd⟩ := I.cell x c e
  obtain ⟨m, ⟨o', es, ep, ho', hd', _⟩, _⟩ := I.loc
  rw [z, ho'] at ho; cases ho; rw [hd'] at hd; cases hd
theorem Inv.funs (I : Inv X pins σ H s) : s.heap.FunFrames X.base X.outer := by
  have all : ∀ (l : List Env), (∀ b ∈ frs l, b ∈ X.fs) → X.s₀.heap.FunFrames X.base l → s.heap.FunFrames X.base l := by
    intro l
    induction l with
    | nil => intro _ _; trivial
    | cons env r ih =>
      intro hs hl
      obtain ⟨hk, ⟨L, o, hf, hn, ho, hd⟩, hr⟩ := hl
      have hL : L ∈ X.fs := hs L (by unfold frs; rw [List.filterMap_cons, hf]; exact List.mem_cons_self)
      obtain ⟨sl, e⟩ := I.base.slot L o ho (I.ok.frf L hL) hL fun z => I.ok.exfs L z hL
      exact ⟨hk, ⟨L, _, hf, hn, e, hd⟩, ih (fun b hb => hs b (by unfold frs; rw [List.filterMap_cons, hf]; exact List.mem_cons_of_mem _ hb)) hr⟩
  exact all X.outer (fun _ hb => hb) I.ok.funs

/-- the frames that run, for a call -/
theorem Inv.stack (I : Inv X pins σ H s) : s.heap.FunFrames X.base X.stack := by
  rcases I.ok.stk with e | ⟨e, hf⟩
  · rw [e]; exact I.funs
  · rw [e]
    obtain ⟨m, hn, _⟩ := I.loc
    refine .cons (by rw [I.ok.kind]; decide) hf hn ?_ I.funs
    exact Heap.get?_none_of_le (Nat.le_trans I.ok.bsz I.ok.above)
theorem Inv.stkSub (I : Inv X pins σ H s) : ∀ b ∈ frs X.stack, b ∈ X.env.locals :: X.fs := fun b hb => by
  rcases I.ok.stk with e | ⟨e, hf⟩
  · rw [e] at hb; exact List.mem_cons_of_mem _ hb
  · rw [e] at hb
    unfold frs at hb
    rw [List.filterMap_cons, hf] at hb
    exact hb
theorem Inv.stkFree (I : Inv X pins σ H s) : ∀ b ∈ frs X.stack, H b = none := fun b hb => by
  rcases List.mem_cons.mp (I.stkSub b hb) with e | hb
  · rw [e]; exact I.free
  · obtain ⟨_, o, ho, _⟩ := I.ok.funs.mem hb
    exact I.base.free b o ho (I.ok.frf b hb) fun z => I.ok.exfs b z hb

/-- THE STEP: the untracked objects but the frame and the records at ch are kept (the callers' frames up to slots), the frame's map is kept, the new abstract heap is held -/
theorem Inv.step {g' : Array GenState} {t' : Nat} {d' : Drawn} {ch : List Addr} (I : Inv X pins σ H s)
    (hch : ∀ b ∈ ch, (b ∈ X.ex ∨ X.s₀.heap.objs.size ≤ b) ∧ b ≠ X.env.locals ∧ (∀ x c, X.env.cells.lookup x = some c → c ≠ b) ∧ ∀ p ∈ X.pn ++ pins, p.1 ≠ b)
    (keep : ∀ b o, b ≠ X.env.locals → b ∉ X.fs → b ∉ ch → s.heap.get? b = some o → H b = none → h'.get? b = some o)
    (slot : ∀ b o, b ≠ X.env.locals → b ∈ X.fs → b ∉ ch → s.heap.get? b = some o → H b = none → ∃ sl, h'.get? b = some { o with slots := sl }) (free : ∀ b o, b ∉ ch → s.heap.get? b = some o → H b = none → H' b = none)
    (there : ∀ b o, b ∉ ch → s.heap.get? b = some o → ∃ o', h'.get? b = some o')
    (tups : ∀ b xs, H b = some (.tup xs) → H' b = some (.tup xs)) (frzs : ∀ b o u, H b = some (.frz o u) → H' b = some (.frz o u)) (tbls : ∀ b ps, H b = some (.tbl ps) → ∃ more, H' b = some (.tbl (ps ++ more)))
    (ns : ∀ m, s.heap.Ns X.env.locals m → h'.Ns X.env.locals m) (hok : HOk X.prog X.w H' h') (hg : AllBare g') :
    Inv X pins σ H' { s with heap := h', gens := g', drawn := d', toks := t' } := by
  have neL : ∀ b o, X.s₀.heap.get? b = some o → b ≠ X.env.locals := fun b o e => Nat.ne_of_lt (Nat.lt_of_lt_of_le (Heap.lt_size e) I.ok.above)
  have neC : ∀ b o, X.s₀.heap.get? b = some o → b ∉ X.ex → b ∉ ch := fun b o e hx hb => by
    rcases (hch b hb).1 with z | z
    · exact hx z
    · exact absurd (Nat.lt_of_lt_of_le (Heap.lt_size e) z) (Nat.lt_irrefl _)
  have cellK : ∀ x c, X.env.cells.lookup x = some c → ∀ v, s.heap.IsCell c v → h'.IsCell c v := fun x c e v ⟨o, ho, hd⟩ => by
    have nch : c ∉ ch := fun z => (hch c z).2.2.1 x c e rfl
    by_cases hc : c ∈ X.fs
    · obtain ⟨sl, q⟩ := slot c o (I.cne x c e) hc nch ho (I.freeC x c e)
      exact ⟨_, q, hd⟩
    · exact ⟨o, keep c o (I.cne x c e) hc nch ho (I.freeC x c e), hd⟩
  refine ⟨I.ok, I.os, hg, ⟨fun b o e n hb hx => ?_, fun b o e n hb hx => ?_, fun b o e n hx => ?_, fun b o e hx => ?_, fun b xs e => tups b xs (I.base.tups b xs e), fun b o xs e => frzs b o xs (I.base.frzs b o xs e), fun b ps e => ?_⟩, ?_, fun x c e => ?_, ?_, fun x c e => ?_, fun p hp => ?_, hok, I.len⟩
  · exact keep b o (neL b o e) hb (neC b o e hx) (I.base.keep b o e n hb hx) (I.base.free b o e n hx)
  · obtain ⟨sl, e1⟩ := I.base.slot b o e n hb hx
    obtain ⟨sl', e2⟩ := slot b _ (neL b o e) hb (neC b o e hx) e1 (I.base.free b o e n hx)
    exact ⟨sl', e2⟩
  · obtain ⟨o', e1⟩ := I.base.there b o e hx
    exact free b o' (neC b o e hx) e1 (I.base.free b o e n hx)
  · obtain ⟨o', e1⟩ := I.base.there b o e hx
    exact there b o' (neC b o e hx) e1
  · obtain ⟨m1, e1⟩ := I.base.tbls b ps e
    obtain ⟨m2, e2⟩ := tbls b _ e1
    exact ⟨m1 ++ m2, by rw [e2, Array.append_assoc]⟩
  · obtain ⟨m, hn, hl⟩ := I.loc
    refine ⟨m, ns m hn, fun i x v e1 e2 e3 => ?_⟩
    obtain ⟨u, r, l⟩ := hl i x v e1 e2 e3
    refine ⟨u, r, ?_⟩
    rcases l with l | ⟨k, c, e, z⟩
    · exact .inl l
    · exact .inr ⟨k, c, e, cellK x c e _ z⟩
  · obtain ⟨v, z⟩ := I.cell x c e
    exact ⟨v, cellK x c e v z⟩
  · obtain ⟨m, ⟨o, _, _, ho, _⟩, _⟩ := I.loc
    exact free _ o (fun z => (hch _ z).2.1 rfl) ho I.free
  · obtain ⟨v, o, ho, hd⟩ := I.cell x c e
    exact free c o (fun z => (hch c z).2.2.1 x c e rfl) ho (I.freeC x c e)
  · obtain ⟨e, n, ne, nf, d⟩ := I.pin p hp
    have nch : p.1 ∉ ch := fun z => (hch p.1 z).2.2.2 p hp rfl
    exact ⟨keep p.1 p.2 ne nf nch e n, free p.1 p.2 nch e n, ne, nf, d⟩
/-- .. where the frame's own object is kept too -/
theorem Inv.un {t' : Nat} (I : Inv X pins σ H s) (u : Un X.fs [] H H' s.heap h') (hok : HOk X.prog X.w H' h') : Inv X pins σ H' { s with heap := h', toks := t' } := by
  obtain ⟨m, ⟨o, es, ep, ho, r⟩, _⟩ := id I.loc
  obtain ⟨sl, hL⟩ := u.any ho I.free (by simp)
  exact I.step (g' := s.gens) (d' := s.drawn) (ch := []) (fun _ z => nomatch z) (fun b o _ hb _ e n => u.keep b o e n hb (by simp)) (fun b o _ hb _ e n => u.slot b o e n hb (by simp)) (fun b o _ e n => u.free b o e n (by simp)) (fun b o _ e => u.there b o e (by simp)) u.tups u.frzs u.tbls (fun m' hm => by
    obtain ⟨o', es', ep', ho', r'⟩ := hm
    rw [ho] at ho'; cases ho'
    exact ⟨_, es', ep', hL, r'⟩) hok I.bare
/-- behind a call (or a comprehension's block): the slots of this frame may have changed too, the records at ch may have turned -/
theorem Inv.call {g' : Array GenState} {t' : Nat} {d' : Drawn} {ch : List Addr} (I : Inv X pins σ H s) (u : Un (frs X.stack) ch H H' s.heap h') (hok : HOk X.prog X.w H' h') (hg : AllBare g')
    (hch : ∀ b ∈ ch, (b ∈ X.ex ∨ X.s₀.heap.objs.size ≤ b) ∧ b ≠ X.env.locals ∧ (∀ x c, X.env.cells.lookup x = some c → c ≠ b) ∧ ∀ p ∈ X.pn ++ pins, p.1 ≠ b) :
    Inv X pins σ H' { s with heap := h', gens := g', drawn := d', toks := t' } := by
  obtain ⟨m, ⟨o, es, ep, ho, r⟩, _⟩ := id I.loc
  obtain ⟨sl, hL⟩ := u.any ho I.free fun z => (hch _ z).2.1 rfl
  exact I.step (ch := ch) hch (fun b o hL hb hc e n => u.keep b o e n (fun z => (List.mem_cons.mp (I.stkSub b z)).elim hL hb) hc) (fun b o _ _ hc e n => u.any e n hc) (fun b o hc e n => u.free b o e n hc) (fun b o hc e => u.there b o e hc) u.tups u.frzs u.tbls (fun m' hm => by
    obtain ⟨o', es', ep', ho', r'⟩ := hm
    rw [ho] at ho'; cases ho'
    exact ⟨_, es', ep', hL, r'⟩) hok hg
/-- an untracked record of ours (an iterator) has turned -/
theorem Inv.turned {t' : Nat} {it : Addr} (I : Inv X pins σ H s) (k : ∀ b o, b ≠ it → s.heap.get? b = some o → h'.get? b = some o) (hn : H it = none) (hL : it ≠ X.env.locals)
    (h1 : it ∈ X.ex ∨ X.s₀.heap.objs.size ≤ it) (h2 : ∀ x c, X.env.cells.lookup x = some c → c ≠ it) (h3 : ∀ p ∈ X.pn ++ pins, p.1 ≠ it) : Inv X pins σ H { s with heap := h', toks := t' } := by
  have nit : ∀ b u, H b = some u → b ≠ it := fun b u e z => by rw [z, hn] at e; cases e
  refine I.step (g' := s.gens) (d' := s.drawn) (ch := [it]) (fun b hb => ?_) (fun b o _ _ hc e _ => k b o (fun z => hc (by simp [z])) e) (fun b o _ _ hc e _ => ⟨o.slots, k b o (fun z => hc (by simp [z])) e⟩) (fun _ _ _ _ n => n)
    (fun b o hc e => ⟨o, k b o (fun z => hc (by simp [z])) e⟩) (fun _ _ e => e) (fun _ _ _ e => e) (fun b ps e => ⟨#[], by rw [e]; simp⟩) (fun m hm => ?_) (fun b u e => ?_) I.bare
  · have e : b = it := by simpa using hb
    subst e
    exact ⟨h1, hL, h2, h3⟩
  · obtain ⟨o, es, ep, ho, r⟩ := hm
    exact ⟨o, es, ep, k _ o (Ne.symm hL) ho, r⟩
  · refine (I.hok b u e).stay (fun c v hc q => k c v ?_ q) (fun _ q => q) fun _ _ q => q
    rcases hc with z | z
    · rw [z]; exact nit b u e
    · exact nit c _ z
theorem Inv.tok (I : Inv X pins σ H s) (t : Nat) : Inv X pins σ H { s with toks := t } := I.un (h' := s.heap) (t' := t) Un.refl I.hok
/-- all objects kept -/
theorem Inv.kept {t' : Nat} (I : Inv X pins σ H s) (k : ∀ b u, s.heap.get? b = some u → h'.get? b = some u) : Inv X pins σ H { s with heap := h', toks := t' } := I.un (Un.kept k) (I.hok.kept k)
/-- a new object laid and tracked -/
theorem Inv.laid {a : Addr} {o : HO} {t' : Nat} (I : Inv X pins σ H s) (k : ∀ b u, s.heap.get? b = some u → h'.get? b = some u) (hp : s.heap.objs.size ≤ a) (new : ObjOk X.prog X.w (upd H a o) h' a o) :
    Inv X pins σ (upd H a o) { s with heap := h', toks := t' } := I.un (Un.laid k hp (I.hok.fresh hp)) (I.hok.laid k hp new)
/-- an object written -/
theorem Inv.write {x e : Addr} {o : HO} {t' : Nat} (I : Inv X pins σ H s) (mu : Mut (H x)) (he : e = x ∨ H e = some (.own x)) (k : ∀ b u, b ≠ e → s.heap.get? b = some u → h'.get? b = some u) (heo : ∃ u, h'.get? e = some u)
    (new : ObjOk X.prog X.w (upd H x o) h' x o) : Inv X pins σ (upd H x o) { s with heap := h', toks := t' } := I.un (Un.write mu he k heo) (I.hok.write mu he k heo new)
/-- forgetting slots, pins -/
theorem Inv.weak {σ' : List (Option V)} (I : Inv X pins σ H s) (hl : σ'.length = σ.length) (w : ∀ (i : Nat) v, σ'[i]? = some (some v) → σ[i]? = some (some v)) : Inv X pins σ' H s :=
  ⟨I.ok, I.os, I.bare, I.base, let ⟨m, hn, hl'⟩ := I.loc; ⟨m, hn, fun i x v e1 e2 e3 => hl' i x v e1 (w i v e2) e3⟩, I.cell, I.free, I.freeC, I.pin, I.hok, hl.trans I.len⟩
theorem Inv.pins_of {pins' : List (Addr × Obj)} (I : Inv X pins σ H s) (h : ∀ p ∈ pins', s.heap.get? p.1 = some p.2 ∧ H p.1 = none ∧ p.1 ≠ X.env.locals ∧ p.1 ∉ X.fs ∧ ∀ v, p.2.data ≠ .cell v) : Inv X pins' σ H s :=
  ⟨I.ok, I.os, I.bare, I.base, I.loc, I.cell, I.free, I.freeC, fun p hp => (List.mem_append.mp hp).elim (fun z => I.pin p (List.mem_append_left _ z)) (h p), I.hok, I.len⟩

theorem nodup_ix {N : List Str} (hN : N.Nodup) {i j : Nat} {x : Str} (a : N[i]? = some x) (b : N[j]? = some x) : i = j := by
  obtain ⟨h1, e1⟩ := List.getElem?_eq_some_iff.mp a
  obtain ⟨h2, e2⟩ := List.getElem?_eq_some_iff.mp b
  exact (List.getElem_inj hN).mp (e1.trans e2.symm)

/-- a name is stored; what changed -/
theorem store_ok2 {M : Model} {A : Around} {E : Value → Shared → Prop} {i : Nat} {x : Str} {v : V} {u : Value} {Q : Unit → Shared → Prop} (I : Inv X pins σ H s) (hN : X.N.Nodup) (hi : X.N[i]? = some x) (hx : Loc X.env.scope x) (r : RelV v u)
    (h : ∀ s', Inv X pins (σ.set i (some v)) H s' → (∃ a, Heap.SameBut a s.heap s'.heap ∧ (a = X.env.locals ∨ X.env.cells.lookup x = some a)) → Q () s') (hf : X.fn x = true ∨ X.env.scope.names.lookup x = some .local := by first | exact .inl rfl | exact .inr rfl | assumption) : wpAny M A (storeName X.env x u) Q E s := by
  obtain ⟨m, hn, hl⟩ := id I.loc
  have hcls : (X.env.scope.kind == .class || (X.env.scope.kind == .module && X.env.locals != X.env.globals)) = false := by rw [I.ok.kind]; rfl
  have hiσ : i < σ.length := by rw [I.len]; exact (List.getElem?_eq_some_iff.mp hi).1
  have cne := I.cne
  have tracked : ∀ {a : Addr} {h' : Heap}, (∃ o, s.heap.get? a = some o ∧ H a = none) → Heap.SameBut a s.heap h' → HOk X.prog X.w H h' := fun {a h'} ha hs b ob e => by
    obtain ⟨_, _, hfree⟩ := ha
    refine (I.hok b ob e).stay (fun c w' hc q => (hs.2 c ?_).trans q) (fun _ q => q) fun _ _ q => q
    rintro rfl
    rcases hc with rfl | hc
    · rw [hfree] at e; cases e
    · rw [hfree] at hc; cases hc
  rcases hx with hk | hk
  · refine wpAny_storeName_local hk hn (fun h' hn' hs => ?_) hcls
    obtain ⟨oL, _, _, hoL, _⟩ := id hn
    refine h _ ⟨I.ok, I.os, I.bare, ⟨fun b o e n hb hx => ?_, fun b o e n hb hx => ?_, I.base.free, fun b o e hx => ?_, I.base.tups, I.base.frzs, I.base.tbls⟩, ⟨_, hn', fun j y v' e1 e2 e3 => ?_⟩, fun y c e => ?_, I.free, I.freeC, fun p hp => ?_, tracked ⟨oL, hoL, I.free⟩ hs, by simpa using I.len⟩ ⟨_, hs, .inl rfl⟩
    · exact (hs.2 b (Nat.ne_of_lt (Nat.lt_of_lt_of_le (Heap.lt_size e) I.ok.above))).trans (I.base.keep b o e n hb hx)
    · obtain ⟨sl, e1⟩ := I.base.slot b o e n hb hx
      exact ⟨sl, (hs.2 b (Nat.ne_of_lt (Nat.lt_of_lt_of_le (Heap.lt_size e) I.ok.above))).trans e1⟩
    · obtain ⟨o', e1⟩ := I.base.there b o e hx
      exact ⟨o', (hs.2 b (Nat.ne_of_lt (Nat.lt_of_lt_of_le (Heap.lt_size e) I.ok.above))).trans e1⟩
    · by_cases hj : j = i
      · subst hj
        rw [hi] at e1; cases e1
        rw [List.getElem?_set_self hiσ] at e2
        cases e2
        exact ⟨u, r, .inl ⟨hk, by simp⟩⟩
      · rw [List.getElem?_set_ne (Ne.symm hj)] at e2
        obtain ⟨u', r', q⟩ := hl j y v' e1 e2 e3
        refine ⟨u', r', ?_⟩
        rcases q with ⟨k, e⟩ | ⟨k, c, e, z⟩
        · refine .inl ⟨k, ?_⟩
          have : y ≠ x := fun e => hj (nodup_ix hN e1 (e ▸ hi))
          simp [this, e]
        · exact .inr ⟨k, c, e, z.sameBut hs (cne y c e)⟩
    · obtain ⟨w', z⟩ := I.cell y c e
      exact ⟨w', z.sameBut hs (cne y c e)⟩
    · obtain ⟨e, n, ne, nf, d⟩ := I.pin p hp
      exact ⟨(hs.2 p.1 ne).trans e, n, ne, nf, d⟩
  · have hfn : X.fn x = true := by
      rcases hf with z | z
      · exact z
      · rw [z] at hk; cases hk
    obtain ⟨c, hc⟩ := I.ok.has x (.inl hk)
    obtain ⟨w', z⟩ := I.cell x c hc
    refine wpAny_storeName_cell I.ok.kind hk hc z (fun h' hc' hs => ?_)
    obtain ⟨oc, hoc, hocd⟩ := id z
    refine h { s with heap := h' } ⟨I.ok, I.os, I.bare, ⟨fun b o e n hb hx => ?_, fun b o e n hb hx => ?_, I.base.free, fun b o e hx => ?_, I.base.tups, I.base.frzs, I.base.tbls⟩, ⟨m, hn.sameBut hs (Ne.symm (cne x c hc)), fun j y v' e1 e2 e3 => ?_⟩, fun y c' e => ?_, I.free, I.freeC, fun p hp => ?_, tracked ⟨oc, hoc, I.freeC x c hc⟩ hs, by simpa using I.len⟩ ⟨c, hs, .inr hc⟩
    · exact (hs.2 b (Nat.ne_of_lt (Nat.lt_of_lt_of_le (Heap.lt_size e) (I.ok.cab x c hfn hc)))).trans (I.base.keep b o e n hb hx)
    · obtain ⟨sl, e1⟩ := I.base.slot b o e n hb hx
      exact ⟨sl, (hs.2 b (Nat.ne_of_lt (Nat.lt_of_lt_of_le (Heap.lt_size e) (I.ok.cab x c hfn hc)))).trans e1⟩
    · obtain ⟨o', e1⟩ := I.base.there b o e hx
      exact ⟨o', (hs.2 b (Nat.ne_of_lt (Nat.lt_of_lt_of_le (Heap.lt_size e) (I.ok.cab x c hfn hc)))).trans e1⟩
    · by_cases hj : j = i
      · subst hj
        rw [hi] at e1; cases e1
        rw [List.getElem?_set_self hiσ] at e2
        cases e2
        exact ⟨u, r, .inr ⟨.inl hk, c, hc, hc'⟩⟩
      · rw [List.getElem?_set_ne (Ne.symm hj)] at e2
        obtain ⟨u', r', q⟩ := hl j y v' e1 e2 e3
        refine ⟨u', r', ?_⟩
        rcases q with q | ⟨k, c', e, z'⟩
        · exact .inl q
        · refine .inr ⟨k, c', e, z'.sameBut hs ?_⟩
          rintro rfl
          exact hj (nodup_ix hN e1 (I.ok.inj _ _ _ e hc ▸ hi))
    · by_cases hcc : c' = c
      · subst hcc; exact ⟨_, hc'⟩
      · obtain ⟨w2, z2⟩ := I.cell y c' e
        exact ⟨w2, z2.sameBut hs hcc⟩
    · obtain ⟨e, n, ne, nf, d⟩ := I.pin p hp
      refine ⟨(hs.2 p.1 ?_).trans e, n, ne, nf, d⟩
      intro q
      rw [q, hoc] at e
      have q' : oc = p.2 := Option.some.inj e
      exact d w' (by rw [← q']; exact hocd)
theorem store_ok {M : Model} {A : Around} {E : Value → Shared → Prop} {i : Nat} {x : Str} {v : V} {u : Value} {Q : Unit → Shared → Prop} (I : Inv X pins σ H s) (hN : X.N.Nodup) (hi : X.N[i]? = some x) (hx : Loc X.env.scope x) (r : RelV v u)
    (h : ∀ s', Inv X pins (σ.set i (some v)) H s' → Q () s') (hf : X.fn x = true ∨ X.env.scope.names.lookup x = some .local := by first | exact .inl rfl | exact .inr rfl | assumption) : wpAny M A (storeName X.env x u) Q E s :=
  store_ok2 I hN hi hx r (fun s' I' _ => h s' I') hf
/-- behind a call or a block, the state as it is -/
theorem Inv.call' {s' : Shared} {ch : List Addr} (I : Inv X pins σ H s) (ho : s'.os = s.os) (u : Un (frs X.stack) ch H H' s.heap s'.heap) (hok : HOk X.prog X.w H' s'.heap) (hg : AllBare s'.gens)
    (hch : ∀ b ∈ ch, (b ∈ X.ex ∨ X.s₀.heap.objs.size ≤ b) ∧ b ≠ X.env.locals ∧ (∀ x c, X.env.cells.lookup x = some c → c ≠ b) ∧ ∀ p ∈ X.pn ++ pins, p.1 ≠ b) : Inv X pins σ H' s' := by
  obtain ⟨h', g', d', t', o'⟩ := s'
  have e : o' = s.os := ho
  subst e
  exact I.call (g' := g') (t' := t') (d' := d') u hok hg hch
end

/-! ### the judgements -/
/-- an exception: its class, its own dict's address (where it has one), the abstract heap behind it -/
abbrev XK := Value → Option Addr → Hp → Prop
abbrev St := List (Option V)
abbrev VK := V → Hp → Prop
/-- an expression's reading; a test's; an argument list's -/
abbrev TE := St → Hp → VK → Prop
abbrev TT := St → Hp → (Bool → Hp → Prop) → Prop
abbrev TA := St → Hp → (List V → Hp → Prop) → Prop
/-- what is wanted behind a statement -/
structure Ends where
  nx : St → Hp → Prop
  rt : VK
  bk : St → Hp → Prop := fun _ _ => False
  ct : St → Hp → Prop := fun _ _ => False
abbrev TS := Ends → St → Hp → Prop

def EP (X : Cx) (pins : List (Addr × Obj)) (σ : St) (Q : VK) (u : Value) (s' : Shared) : Prop := ∃ v H', Inv X pins σ H' s' ∧ RelV v u ∧ Q v H'
def TP (X : Cx) (pins : List (Addr × Obj)) (σ : St) (Q : Bool → Hp → Prop) (b : Bool) (s' : Shared) : Prop := ∃ H', Inv X pins σ H' s' ∧ Q b H'
def AP (X : Cx) (pins : List (Addr × Obj)) (σ : St) (Q : List V → Hp → Prop) (us : List Value) (s' : Shared) : Prop := ∃ vs H', Inv X pins σ H' s' ∧ Vals vs us ∧ Q vs H'
def SP (X : Cx) (pins : List (Addr × Obj)) (D : Ends) (f : Flow) (s' : Shared) : Prop :=
  match f with
  | .next => ∃ σ' H', Inv X pins σ' H' s' ∧ D.nx σ' H'
  | .brk => ∃ σ' H', Inv X pins σ' H' s' ∧ D.bk σ' H'
  | .cont => ∃ σ' H', Inv X pins σ' H' s' ∧ D.ct σ' H'
  | .ret u => ∃ v σ' H', Inv X pins σ' H' s' ∧ RelV v u ∧ D.rt v H'

def PE (X : Cx) (e : Expr) (t : TE) : Prop :=
  ∀ (pins : List (Addr × Obj)) (s : Shared) (σ : St) (H : Hp) (Q : VK), Inv X pins σ H s → t σ H Q → wpAny (model X.prog X.w) X.A (eval e X.env) (EP X pins σ Q) X.xe s
def PT (X : Cx) (e : Expr) (t : TT) : Prop :=
  ∀ (pins : List (Addr × Obj)) (s : Shared) (σ : St) (H : Hp) (Q : Bool → Hp → Prop), Inv X pins σ H s → t σ H Q → wpAny (model X.prog X.w) X.A (isTrue e X.env (eval e X.env)) (TP X pins σ Q) X.xe s
/-- a test whatever its 'whole' is (and, or) -/
def PW (X : Cx) (e : Expr) (t : TT) : Prop :=
  ∀ (whole : Sem Value) (pins : List (Addr × Obj)) (s : Shared) (σ : St) (H : Hp) (Q : Bool → Hp → Prop), Inv X pins σ H s → t σ H Q → wpAny (model X.prog X.w) X.A (isTrue e X.env whole) (TP X pins σ Q) X.xe s
theorem PW.pt {X : Cx} {e : Expr} {t : TT} (h : PW X e t) : PT X e t := h _
/-- an argument list (no star), from the left -/
def PA (X : Cx) (es : List Expr) (t : TA) : Prop :=
  ∀ (pos : Pos) (pins : List (Addr × Obj)) (s : Shared) (σ : St) (H : Hp) (Q : List V → Hp → Prop), Inv X pins σ H s → t σ H Q → wpAny (model X.prog X.w) X.A (spliced (backTo pos (starEach es X.env))) (AP X pins σ Q) X.xe s
def PS (X : Cx) (st : Stmt) (t : TS) : Prop :=
  ∀ (pins : List (Addr × Obj)) (s : Shared) (σ : St) (H : Hp) (D : Ends), Inv X pins σ H s → t D σ H → wpAny (model X.prog X.w) X.A (exec st X.env) (SP X pins D) X.xe s
def PSs (X : Cx) (st : List Stmt) (t : TS) : Prop :=
  ∀ (pins : List (Addr × Obj)) (s : Shared) (σ : St) (H : Hp) (D : Ends), Inv X pins σ H s → t D σ H → wpAny (model X.prog X.w) X.A (execs st X.env) (SP X pins D) X.xe s
/-- weaken the end -/
theorem thn {α : Type} {t : Sem α} {Q Q' : α → Shared → Prop} {M : Model} {A : Around} {E : Value → Shared → Prop} {s : Shared} (h : wpAny M A t Q E s) (hQ : ∀ a s, Q a s → Q' a s) : wpAny M A t Q' E s := wpAny_mono h hQ fun _ _ x => x
end L2

namespace L2
open PySem PySem.Spec PyProof.Rows
section
variable {X : Cx}

/-- two expressions in a row -/
theorem bin {a b : Expr} {ta tb : TE} (ha : PE X a ta) (hb : PE X b tb) {pins : List (Addr × Obj)} {s : Shared} {σ : St} {H : Hp} {R : V → V → Hp → Prop} (I : Inv X pins σ H s) (h : ta σ H fun x H1 => tb σ H1 fun y H2 => R x y H2)
    {α : Type} {Q : α → Shared → Prop} {f : Value → Value → Sem α}
    (hf : ∀ v u s2 x y H2, Inv X pins σ H2 s2 → RelV x v → RelV y u → R x y H2 → wpAny (model X.prog X.w) X.A (f v u) Q X.xe s2) :
    wpAny (model X.prog X.w) X.A (eval a X.env) (fun v s₁ => wpAny (model X.prog X.w) X.A (eval b X.env) (fun u s₂ => wpAny (model X.prog X.w) X.A (f v u) Q X.xe s₂) X.xe s₁) X.xe s := by
  refine thn (ha pins s σ H _ I h) fun v s1 ⟨x, H1, I1, r1, q1⟩ => ?_
  refine thn (hb pins s1 σ H1 _ I1 q1) fun u s2 ⟨y, H2, I2, r2, q2⟩ => ?_
  exact hf v u s2 x y H2 I2 r1 r2 q2

/-! ### names and constants -/
def tVar (i : Nat) : TE := fun σ H Q => ∃ v, σ[i]? = some (some v) ∧ Q v H
def tC (v : V) : TE := fun _ H Q => Q v H
theorem pe_var {i : Nat} {x : Str} {pos : Pos} (hN : X.N[i]? = some x) (hv : Vis X.env.scope x) (hd : (x == ("__debug__" : Str)) = false := by decide) (hcd : (x == ("__classdict__" : Str)) = false := by decide) : PE X (.Name x pos) (tVar i) := by
  intro pins s σ H Q I h
  obtain ⟨v, e, h⟩ := h
  obtain ⟨m, hn, hl⟩ := I.loc
  obtain ⟨u, r, l⟩ := hl i x v hN e hv
  have fin : EP X pins σ Q u s := ⟨v, H, I, r, h⟩
  rcases l with ⟨hk, hm⟩ | ⟨hk, c, hc, hcell⟩
  · exact wpAny_Name (wpAny_loadName_local I.ok.kind hk hn hm fin) hd
  · rcases hk with hk | hk
    · exact wpAny_Name (wpAny_loadName_cell I.ok.kind hk hc hcell fin) hd
    · exact wpAny_Name (wpAny_loadName_free I.ok.kind hk hc hcell fin hcd) hd
theorem pe_int {i j pos} : PE X (.Constant (.int i) j pos) (tC (.int i)) := fun _ _ _ H _ I h => wpAny_Constant_int ⟨.int i, H, I.tok _, ⟨_, rfl⟩, h⟩
theorem pe_bl {b j pos} : PE X (.Constant (.bool b) j pos) (tC (.bl b)) := fun _ _ _ H _ I h => Constant_bool ⟨.bl b, H, I, rfl, h⟩
theorem pe_non {j pos} : PE X (.Constant .none j pos) (tC .non) := fun _ _ _ H _ I h => Constant_none ⟨.non, H, I, rfl, h⟩
theorem pe_str {x j pos} : PE X (.Constant (.str x) j pos) (tC (.str x)) := fun _ _ _ H _ I h => Calls.Constant_str ⟨.str x, H, I.tok _, ⟨_, rfl⟩, h⟩

/-- a global name of the def -/
def Gl (X : Cx) (x : Str) : Prop := X.env.kindOf x = some .globalImplicit
theorem ld_glob {E : Value → Shared → Prop} {pins : List (Addr × Obj)} {s : Shared} {σ : St} {H : Hp} {x : Str} {u : Value} {pos : Pos} {Q : Value → Shared → Prop} (I : Inv X pins σ H s) (hg : Gl X x) (hm : X.mg x = some u) (h : Q u s)
    (hd : (x == ("__debug__" : Str)) = false := by decide) : wpAny (model X.prog X.w) X.A (eval (.Name x pos) X.env) Q E s :=
  Calls.Name_function_global I.ok.kind hg (Calls.loadGlobal_global (by rw [I.ok.glob]; exact I.mod.glob.keeps I.bk) hm h) hd
theorem ld_blt {E : Value → Shared → Prop} {pins : List (Addr × Obj)} {s : Shared} {σ : St} {H : Hp} {x : Str} {u : Value} {pos : Pos} {Q : Value → Shared → Prop} (I : Inv X pins σ H s) (hg : Gl X x) (hm : X.mg x = none) (hv : bootBuiltins x = some u) (h : Q u s)
    (hn : x ≠ "__name__" := by decide) (hd : (x == ("__debug__" : Str)) = false := by decide) : wpAny (model X.prog X.w) X.A (eval (.Name x pos) X.env) Q E s := by
  obtain ⟨mb, h1, h2⟩ := I.mod.blt
  exact Calls.Name_function_global I.ok.kind hg (Calls.loadGlobal_builtin (by rw [I.ok.glob]; exact I.mod.glob.keeps I.bk) hm (by rw [I.ok.blt]; exact h1.keeps I.bk) ((h2 x hn).trans hv) h) hd
/-- a module's constant, a class, a function, as a value -/
theorem pe_glob {x : Str} {v : V} {u : Value} {pos : Pos} (hg : Gl X x) (hm : X.mg x = some u) (r : RelV v u) (hd : (x == ("__debug__" : Str)) = false := by decide) : PE X (.Name x pos) (tC v) :=
  fun _ _ _ H _ I h => ld_glob I hg hm ⟨v, H, I, r, h⟩ hd
theorem pe_bltn {x : Str} {v : V} {u : Value} {pos : Pos} (hg : Gl X x) (hm : X.mg x = none) (hv : bootBuiltins x = some u) (r : RelV v u) (hn : x ≠ "__name__" := by decide) (hd : (x == ("__debug__" : Str)) = false := by decide) : PE X (.Name x pos) (tC v) :=
  fun _ _ _ H _ I h => ld_blt I hg hm hv ⟨v, H, I, r, h⟩ hn hd

/-! ### arithmetic -/
/-- two ints -/
def t2I (ta tb : TE) (k : Int → Int → Hp → Prop) : St → Hp → Prop := fun σ H => ta σ H fun x H1 => tb σ H1 fun y H2 => ∃ i j, x = .int i ∧ y = .int j ∧ k i j H2
def tAdd (ta tb : TE) : TE := fun σ H Q => t2I ta tb (fun i j H2 => Q (.int (i + j)) H2) σ H
def tSub (ta tb : TE) : TE := fun σ H Q => t2I ta tb (fun i j H2 => Q (.int (i - j)) H2) σ H
/-- the left factor below 2^64 -/
def tMul (ta tb : TE) : TE := fun σ H Q => t2I ta tb (fun i j H2 => (-(2 ^ 64) < i ∧ i < 2 ^ 64) ∧ Q (.int (i * j)) H2) σ H
variable {a b : Expr} {ta tb : TE} {pos : Pos}
theorem pe_add (ha : PE X a ta) (hb : PE X b tb) : PE X (.BinOp a .Add b pos) (tAdd ta tb) := by
  intro pins s σ H Q I h
  refine wpAny_BinOp (bin ha hb I h fun v u s2 x y H2 I2 rx ry q => ?_)
  obtain ⟨i, j, rfl, rfl, q⟩ := q
  obtain ⟨t, rfl⟩ := rx
  obtain ⟨t', rfl⟩ := ry
  exact add_int ⟨.int _, H2, I2.tok _, ⟨_, rfl⟩, q⟩
theorem pe_sub (ha : PE X a ta) (hb : PE X b tb) : PE X (.BinOp a .Sub b pos) (tSub ta tb) := by
  intro pins s σ H Q I h
  refine wpAny_BinOp (bin ha hb I h fun v u s2 x y H2 I2 rx ry q => ?_)
  obtain ⟨i, j, rfl, rfl, q⟩ := q
  obtain ⟨t, rfl⟩ := rx
  obtain ⟨t', rfl⟩ := ry
  exact sub_int ⟨.int _, H2, I2.tok _, ⟨_, rfl⟩, q⟩
theorem pe_mul (ha : PE X a ta) (hb : PE X b tb) : PE X (.BinOp a .Mult b pos) (tMul ta tb) := by
  intro pins s σ H Q I h
  refine wpAny_BinOp (bin ha hb I h fun v u s2 x y H2 I2 rx ry q => ?_)
  obtain ⟨i, j, rfl, rfl, ⟨q1, q2⟩, q⟩ := q
  obtain ⟨t, rfl⟩ := rx
  obtain ⟨t', rfl⟩ := ry
  exact mul_int ⟨.int _, H2, I2.tok _, ⟨_, rfl⟩, q⟩ (.of_left (intBits_le_64 q1 q2))

/-! ### comparisons -/
def PC (X : Cx) (op : CmpOp) (a b : Expr) (t : TE) : Prop :=
  ∀ (pins : List (Addr × Obj)) (s : Shared) (σ : St) (H : Hp) (Q : VK), Inv X pins σ H s → t σ H Q →
    wpAny (model X.prog X.w) X.A (eval a X.env) (fun v s₁ => wpAny (model X.prog X.w) X.A (eval b X.env) (fun u s₂ => wpAny (model X.prog X.w) X.A (compareOp op v u) (EP X pins σ Q) X.xe s₂) X.xe s₁) X.xe s
theorem nobehind (b : Expr) {op : CmpOp} (h : op ≠ .In) (h2 : op ≠ .NotIn) : behindInMarks op b = false := by
  have e1 : (op == CmpOp.In) = false := by cases op <;> first | rfl | exact absurd rfl h
  have e2 : (op == CmpOp.NotIn) = false := by cases op <;> first | rfl | exact absurd rfl h2
  cases b <;> simp [behindInMarks, e1, e2]
def tCmp (p : Int → Int → Bool) (ta tb : TE) : TE := fun σ H Q => t2I ta tb (fun i j H2 => Q (.bl (p i j)) H2) σ H
abbrev tLt : TE → TE → TE := tCmp fun i j => decide (i < j)
abbrev tLe : TE → TE → TE := tCmp fun i j => decide (i ≤ j)
abbrev tGt : TE → TE → TE := tCmp fun i j => decide (j < i)
abbrev tGe : TE → TE → TE := tCmp fun i j => decide (j ≤ i)
abbrev tEqI : TE → TE → TE := tCmp fun i j => decide (i = j)
abbrev tNeI : TE → TE → TE := tCmp fun i j => !decide (i = j)
/-- a comparison of two ints, by its rule -/
theorem pc_int {op : CmpOp} {p : Int → Int → Bool} (ha : PE X a ta) (hb : PE X b tb)
    (rule : ∀ (i j : Int) (t u : Tok) (Q : Value → Shared → Prop) (s : Shared), Q (.bool (p i j)) s → wpAny (model X.prog X.w) X.A (compareOp op (.int i t) (.int j u)) Q X.xe s) : PC X op a b (tCmp p ta tb) := by
  intro pins s σ H Q I h
  refine bin ha hb I h fun v u s2 x y H2 I2 rx ry q => ?_
  obtain ⟨i, j, rfl, rfl, q⟩ := q
  obtain ⟨t, rfl⟩ := rx
  obtain ⟨t', rfl⟩ := ry
  exact rule i j t t' _ s2 ⟨.bl _, H2, I2, rfl, q⟩
theorem pc_lt (ha : PE X a ta) (hb : PE X b tb) : PC X .Lt a b (tLt ta tb) := pc_int ha hb fun _ _ _ _ _ _ h => lt_int h
theorem pc_le (ha : PE X a ta) (hb : PE X b tb) : PC X .LtE a b (tLe ta tb) := pc_int ha hb fun _ _ _ _ _ _ h => le_int h
theorem pc_gt (ha : PE X a ta) (hb : PE X b tb) : PC X .Gt a b (tGt ta tb) := pc_int ha hb fun _ _ _ _ _ _ h => gt_int h
theorem pc_ge (ha : PE X a ta) (hb : PE X b tb) : PC X .GtE a b (tGe ta tb) := pc_int ha hb fun _ _ _ _ _ _ h => ge_int h
theorem pc_eqI (ha : PE X a ta) (hb : PE X b tb) : PC X .Eq a b (tEqI ta tb) := pc_int ha hb fun _ _ _ _ _ _ h => eq_int (by rw [Bool.beq_eq_decide_eq]; exact h)
theorem pc_neI (ha : PE X a ta) (hb : PE X b tb) : PC X .NotEq a b (tNeI ta tb) := pc_int ha hb fun _ _ _ _ _ _ h => ne_int (by rw [bne, Bool.beq_eq_decide_eq]; exact h)
/-- is None -/
def tIsN (ta : TE) : TE := fun σ H Q => ta σ H fun x H1 => Q (.bl (decide (x = .non))) H1
def tNotN (ta : TE) : TE := fun σ H Q => ta σ H fun x H1 => Q (.bl (!decide (x = .non))) H1
theorem RelV.none_iff {x : V} {v : Value} (r : RelV x v) : (v == Value.none) = decide (x = .non) := by
  cases x with
  | non => cases r; rfl
  | bl _ => cases r; rfl
  | int _ => obtain ⟨t, rfl⟩ := r; rfl
  | str _ => obtain ⟨t, rfl⟩ := r; rfl
  | byt _ => obtain ⟨t, rfl⟩ := r; rfl
  | flt _ => obtain ⟨t, rfl⟩ := r; rfl
  | ref _ => cases r; rfl
  | ty _ => cases r; rfl
theorem pc_isN {j pos'} (ha : PE X a ta) : PC X .Is a (.Constant .none j pos') (tIsN ta) := by
  intro pins s σ H Q I h
  refine thn (ha pins s σ H _ I h) fun v s1 ⟨x, H1, I1, r1, q1⟩ => ?_
  exact Constant_none (is_none_gen ⟨.bl _, H1, I1, by rw [r1.none_iff]; rfl, q1⟩)
theorem pc_notN {j pos'} (ha : PE X a ta) : PC X .IsNot a (.Constant .none j pos') (tNotN ta) := by
  intro pins s σ H Q I h
  refine thn (ha pins s σ H _ I h) fun v s1 ⟨x, H1, I1, r1, q1⟩ => ?_
  exact Constant_none (isnot_none_gen ⟨.bl _, H1, I1, by rw [r1.none_iff]; rfl, q1⟩)
/-- a comparison as a value, as a test -/
def tB (t : TE) : TT := fun σ H Q => t σ H fun x H1 => ∃ c, x = .bl c ∧ Q c H1
theorem pe_cmp {op : CmpOp} {t : TE} (h : PC X op a b t) (h1 : behindInMarks op b = false := by first | exact nobehind _ (by decide) (by decide) | rfl) : PE X (.Compare a [op] [b] pos) t := fun pins s σ H Q I hw => wpAny_Compare1 (h pins s σ H Q I hw) h1
theorem pt_cmp {op : CmpOp} {t : TE} (h : PC X op a b t) (h1 : behindInMarks op b = false := by first | exact nobehind _ (by decide) (by decide) | rfl) : PT X (.Compare a [op] [b] pos) (tB t) := by
  intro pins s σ H Q I hw
  refine wpAny_isTrue_Compare1 (thn (h pins s σ H _ I hw) fun v s1 h1 => thn h1 fun u s2 h2 => thn h2 fun c s3 ⟨x, H1, I1, r1, q1⟩ => ?_) h1
  obtain ⟨d, rfl, q⟩ := q1
  cases r1
  exact wpAny_truthy_bool ⟨H1, I1, q⟩
/-- an expression whose value is a bool, as a test -/
theorem pt_val {e : Expr} {t : TE} (h : PE X e t) (he : ∀ whole, isTrue e X.env whole = (do let v ← whole; standAt e.pos; holding [v] (truthy v)) := by intro _; rfl) : PT X e (tB t) := by
  intro pins s σ H Q I hw
  refine isTrue_plain (thn (h pins s σ H _ I hw) fun v s1 ⟨x, H1, I1, r1, q1⟩ => ?_) (he _)
  obtain ⟨d, rfl, q⟩ := q1
  cases r1
  exact wpAny_truthy_bool ⟨H1, I1, q⟩

/-! ### and, or, not -/
variable {tA tB' : TT} {rest : List Expr}
def tAnd (t u : TT) : TT := fun σ H Q => t σ H fun c H1 => if c = true then u σ H1 Q else Q false H1
def tOr (t u : TT) : TT := fun σ H Q => t σ H fun c H1 => if c = true then Q true H1 else u σ H1 Q
def tNot (t : TT) : TT := fun σ H Q => t σ H fun c H1 => Q (!c) H1
theorem pw_and1 (ha : PT X a tA) : PW X (.BoolOp .And [a] pos) tA := by
  intro wh pins s σ H Q I h
  refine isTrue_and (thn (ha pins s σ H Q I h) fun c s1 e => ?_)
  cases c with
  | true => exact isTrue_and_nil e
  | false => exact e
theorem pw_or1 (ha : PT X a tA) : PW X (.BoolOp .Or [a] pos) tA := by
  intro wh pins s σ H Q I h
  refine isTrue_or (thn (ha pins s σ H Q I h) fun c s1 e => ?_)
  cases c with
  | false => exact isTrue_or_nil e
  | true => exact e
theorem pw_and (ha : PT X a tA) (hb : PW X (.BoolOp .And (b :: rest) pos) tB') : PW X (.BoolOp .And (a :: b :: rest) pos) (tAnd tA tB') := by
  intro wh pins s σ H Q I h
  refine isTrue_and (thn (ha pins s σ H _ I h) fun c s1 ⟨H1, I1, q1⟩ => ?_)
  cases c with
  | true => exact hb wh pins s1 σ H1 Q I1 q1
  | false => exact ⟨H1, I1, q1⟩
theorem pw_or (ha : PT X a tA) (hb : PW X (.BoolOp .Or (b :: rest) pos) tB') : PW X (.BoolOp .Or (a :: b :: rest) pos) (tOr tA tB') := by
  intro wh pins s σ H Q I h
  refine isTrue_or (thn (ha pins s σ H _ I h) fun c s1 ⟨H1, I1, q1⟩ => ?_)
  cases c with
  | true => exact ⟨H1, I1, q1⟩
  | false => exact hb wh pins s1 σ H1 Q I1 q1
theorem pt_not (ha : PT X a tA) : PT X (.UnaryOp .Not a pos) (tNot tA) := by
  intro pins s σ H Q I h
  exact isTrue_not (ha pins s σ H (fun c H1 => Q (!c) H1) I h)
/-- .. as values (bools) -/
def tAndV (ta tb : TE) : TE := fun σ H Q => ta σ H fun x H1 => ∃ c, x = .bl c ∧ if c = true then tb σ H1 Q else Q (.bl false) H1
def tOrV (ta tb : TE) : TE := fun σ H Q => ta σ H fun x H1 => ∃ c, x = .bl c ∧ if c = true then Q (.bl true) H1 else tb σ H1 Q
def tNotV (ta : TE) : TE := fun σ H Q => ta σ H fun x H1 => ∃ c, x = .bl c ∧ Q (.bl (!c)) H1
theorem pe_one {op} {t : TE} (h : PE X a t) : PE X (.BoolOp op [a] pos) t := fun pins s σ H Q I hw => BoolOp_one (h pins s σ H Q I hw)
theorem pe_and (ha : PE X a ta) (hb : PE X (.BoolOp .And (b :: rest) pos) tb) : PE X (.BoolOp .And (a :: b :: rest) pos) (tAndV ta tb) := by
  intro pins s σ H Q I h
  refine BoolOp_and (thn (ha pins s σ H _ I h) fun v s1 ⟨x, H1, I1, r1, q1⟩ => ?_)
  obtain ⟨c, rfl, q1⟩ := q1
  cases r1
  refine wpAny_truthy_bool ?_
  cases c with
  | true => exact hb pins s1 σ H1 Q I1 q1
  | false => exact ⟨.bl false, H1, I1, rfl, q1⟩
theorem pe_or (ha : PE X a ta) (hb : PE X (.BoolOp .Or (b :: rest) pos) tb) : PE X (.BoolOp .Or (a :: b :: rest) pos) (tOrV ta tb) := by
  intro pins s σ H Q I h
  refine BoolOp_or (thn (ha pins s σ H _ I h) fun v s1 ⟨x, H1, I1, r1, q1⟩ => ?_)
  obtain ⟨c, rfl, q1⟩ := q1
  cases r1
  refine wpAny_truthy_bool ?_
  cases c with
  | false => exact hb pins s1 σ H1 Q I1 q1
  | true => exact ⟨.bl true, H1, I1, rfl, q1⟩
theorem pe_not (ha : PE X a ta) : PE X (.UnaryOp .Not a pos) (tNotV ta) := by
  intro pins s σ H Q I h
  refine UnaryOp_ (thn (ha pins s σ H _ I h) fun v s1 ⟨x, H1, I1, r1, q1⟩ => ?_)
  obtain ⟨c, rfl, q1⟩ := q1
  cases r1
  exact not_of (wpAny_truthy_bool ⟨.bl (!c), H1, I1, rfl, q1⟩)
/-- a if t else b -/
def tIf (t : TT) (ta tb : TE) : TE := fun σ H Q => t σ H fun c H1 => if c = true then ta σ H1 Q else tb σ H1 Q
theorem pe_ifExp {c : Expr} (hc : PT X c tA) (ha : PE X a ta) (hb : PE X b tb) : PE X (.IfExp c a b pos) (tIf tA ta tb) := by
  intro pins s σ H Q I h
  refine wpAny_IfExp (thn (hc pins s σ H _ I h) fun d s1 ⟨H1, I1, q1⟩ => ?_)
  cases d with
  | true => exact ha pins s1 σ H1 Q I1 q1
  | false => exact hb pins s1 σ H1 Q I1 q1
end
end L2

namespace L2
open PySem PySem.Spec PyProof.Rows

/-! ### a list, a tuple that is read: tracked, frozen, or an object of the module -/
def SqL (K : PySem.W.Frag) (H : Hp) (a : Addr) (xs : List V) : Prop :=
  Rd H a (.lst xs) ∨
    ∃ (o : Obj) (its : Array Value) (n : Nat), K.lookup a = some o ∧ o.cls = .type "list" ∧ o.dict = none ∧ o.data = .seq its n ∧ its.size ≤ sizeLine ∧ Vals xs its.toList
def SqT (K : PySem.W.Frag) (H : Hp) (a : Addr) (xs : List V) : Prop :=
  Rd H a (.tup xs) ∨
    ∃ (o : Obj) (its : Array Value) (n : Nat), K.lookup a = some o ∧ o.cls = .type "tuple" ∧ o.data = .seq its n ∧ its.size ≤ sizeLine ∧ Vals xs its.toList
def absV : Value → Option V
  | .none => some .non
  | .bool b => some (.bl b)
  | .int i _ => some (.int i)
  | .str x _ => some (.str x)
  | .bytes b _ => some (.byt b)
  | .float b _ => some (.flt b)
  | .ref a => some (.ref a)
  | .type n => some (.ty n)
  | _ => none
theorem RelV.abs {x : V} {u : Value} (r : RelV x u) : absV u = some x := by
  cases x with
  | non => cases r; rfl
  | bl _ => cases r; rfl
  | int _ => obtain ⟨t, rfl⟩ := r; rfl
  | str _ => obtain ⟨t, rfl⟩ := r; rfl
  | byt _ => obtain ⟨t, rfl⟩ := r; rfl
  | flt _ => obtain ⟨t, rfl⟩ := r; rfl
  | ref _ => cases r; rfl
  | ty _ => cases r; rfl
theorem RelV.inj {x y : V} {u : Value} (r : RelV x u) (q : RelV y u) : x = y := Option.some.inj (r.abs.symm.trans q.abs)
theorem Vals.inj : ∀ {xs ys : List V} {us : List Value}, Vals xs us → Vals ys us → xs = ys
  | _, _, _, .nil, .nil => rfl
  | _, _, _, .cons r t, .cons r' t' => by rw [r.inj r', Vals.inj t t']
section
variable {X : Cx} {pins : List (Addr × Obj)} {σ : St} {H : Hp} {s : Shared} {a : Addr} {xs ys : List V}
theorem SqL.of {K : PySem.W.Frag} (h : H a = some (.lst xs)) : SqL K H a xs := .inl (.inl h)
theorem SqT.of {K : PySem.W.Frag} (h : H a = some (.tup xs)) : SqT K H a xs := .inl (.inl h)
theorem Inv.list (I : Inv X pins σ H s) (h : SqL X.K H a xs) : ∃ its : List Value, Vals xs its ∧ PlainL s.heap a its.toArray ∧ xs.length ≤ sizeLine := by
  rcases h with h | ⟨o, its, n, hk, hc, hd, hs, hz, r⟩
  · obtain ⟨z, its, n, r, e⟩ := h.ok I.hok
    exact ⟨its, r, ⟨_, n, e, rfl, rfl, rfl⟩, z⟩
  · refine ⟨its.toList, r, ⟨o, n, I.kIn a o hk, hc, hd, by simpa using hs⟩, ?_⟩
    have e := r.length
    simp only [Array.length_toList] at e
    omega
theorem Inv.tuple (I : Inv X pins σ H s) (h : SqT X.K H a xs) : ∃ its : List Value, Vals xs its ∧ IsTup s.heap a its.toArray ∧ xs.length ≤ sizeLine := by
  rcases h with h | ⟨o, its, n, hk, hc, hs, hz, r⟩
  · obtain ⟨z, its, r, p⟩ := h.ok I.hok
    exact ⟨its, r, p, z⟩
  · refine ⟨its.toList, r, ⟨o, I.kIn a o hk, hc, n, by simpa using hs⟩, ?_⟩
    have e := r.length
    simp only [Array.length_toList] at e
    omega
theorem Inv.list_inj (I : Inv X pins σ H s) (h : SqL X.K H a xs) (h' : SqL X.K H a ys) : xs = ys := by
  obtain ⟨its, r, ⟨o, n, e, _, _, d⟩, _⟩ := I.list h
  obtain ⟨its', r', ⟨o', n', e', _, _, d'⟩, _⟩ := I.list h'
  rw [e] at e'; cases e'
  rw [d] at d'
  injection d' with d1 _
  have : its = its' := by simpa using congrArg Array.toList d1
  subst this
  exact r.inj r'
theorem Inv.tuple_inj (I : Inv X pins σ H s) (h : SqT X.K H a xs) (h' : SqT X.K H a ys) : xs = ys := by
  obtain ⟨its, r, ⟨o, e, _, n, d⟩, _⟩ := I.tuple h
  obtain ⟨its', r', ⟨o', e', _, n', d'⟩, _⟩ := I.tuple h'
  rw [e] at e'; cases e'
  rw [d] at d'
  injection d' with d1 _
  have : its = its' := by simpa using congrArg Array.toList d1
  subst this
  exact r.inj r'
end

/-! ### another wish about exceptions -/
abbrev Cx.wish (X : Cx) (E : Value → Shared → Prop) : Cx := { X with xe := E }
/-- no exception leaves -/
abbrev Cx.nox (X : Cx) : Cx := X.wish fun _ _ => False
theorem Cx.Ok.wish {X : Cx} (ok : X.Ok) (E : Value → Shared → Prop) : (X.wish E).Ok :=
  ⟨ok.mod, ok.kind, ok.glob, ok.blt, ok.above, ok.inj, ok.has, ok.cab, ok.hd, ok.frames, ok.stk, ok.exf, ok.bs, ok.bsz, ok.noex, ok.exfs, ok.funs, ok.frf⟩
theorem Cx.Ok.unwish {X : Cx} {E : Value → Shared → Prop} (ok : (X.wish E).Ok) : X.Ok :=
  ⟨ok.mod, ok.kind, ok.glob, ok.blt, ok.above, ok.inj, ok.has, ok.cab, ok.hd, ok.frames, ok.stk, ok.exf, ok.bs, ok.bsz, ok.noex, ok.exfs, ok.funs, ok.frf⟩
section
variable {X : Cx} {pins : List (Addr × Obj)} {σ : St} {H : Hp} {s : Shared} {E : Value → Shared → Prop}
theorem Inv.wish (I : Inv X pins σ H s) (E : Value → Shared → Prop) : Inv (X.wish E) pins σ H s := ⟨I.ok.wish E, I.os, I.bare, I.base, I.loc, I.cell, I.free, I.freeC, I.pin, I.hok, I.len⟩
theorem Inv.unwish (I : Inv (X.wish E) pins σ H s) : Inv X pins σ H s := ⟨I.ok.unwish, I.os, I.bare, I.base, I.loc, I.cell, I.free, I.freeC, I.pin, I.hok, I.len⟩
theorem SP.unwish {D : Ends} {f : Flow} {s' : Shared} (h : SP (X.wish E) pins D f s') : SP X pins D f s' := by
  cases f with
  | next => obtain ⟨σ', H', I, q⟩ := h; exact ⟨σ', H', I.unwish, q⟩
  | brk => obtain ⟨σ', H', I, q⟩ := h; exact ⟨σ', H', I.unwish, q⟩
  | cont => obtain ⟨σ', H', I, q⟩ := h; exact ⟨σ', H', I.unwish, q⟩
  | ret u => obtain ⟨v, σ', H', I, r, q⟩ := h; exact ⟨v, σ', H', I.unwish, r, q⟩
theorem PE.nox {e : Expr} {t : TE} (h : PE X.nox e t) : PE X e t := fun pins s σ H Q I hw =>
  wpAny_mono (h pins s σ H Q (I.wish _) hw) (fun _ _ ⟨v, H', I', r, q⟩ => ⟨v, H', I'.unwish, r, q⟩) fun _ _ z => False.elim z
theorem PT.nox {e : Expr} {t : TT} (h : PT X.nox e t) : PT X e t := fun pins s σ H Q I hw =>
  wpAny_mono (h pins s σ H Q (I.wish _) hw) (fun _ _ ⟨H', I', q⟩ => ⟨H', I'.unwish, q⟩) fun _ _ z => False.elim z
theorem PSs.nox {st : List Stmt} {t : TS} (h : PSs X.nox st t) : PSs X st t := fun pins s σ H D I hw =>
  wpAny_mono (h pins s σ H D (I.wish _) hw) (fun _ _ q => q.unwish) fun _ _ z => False.elim z
end

/-! ### blocks and small statements -/
section
variable {X : Cx} {st : Stmt} {rest : List Stmt} {t u : TS} {e : Expr} {te : TE} {pos : Pos}
def tNext : TS := fun D σ H => D.nx σ H
def tSeq (t u : TS) : TS := fun D σ H => t { D with nx := u D } σ H
theorem pss_nil : PSs X [] tNext := fun _ _ σ H _ I h => wpAny_execs_nil ⟨σ, H, I, h⟩
theorem pss_cons (h1 : PS X st t) (h2 : PSs X rest u) : PSs X (st :: rest) (tSeq t u) := by
  intro pins s σ H D I h
  refine wpAny_execs_cons (thn (h1 pins s σ H { D with nx := u D } I h) fun f s1 q => ?_)
  cases f with
  | next =>
    obtain ⟨σ', H', I', q⟩ := q
    exact h2 pins s1 σ' H' D I' q
  | ret v => exact q
  | brk => exact q
  | cont => exact q
theorem pss_one (h1 : PS X st t) : PSs X [st] t := by
  intro pins s σ H D I h
  refine wpAny_execs_cons (thn (h1 pins s σ H D I h) fun f s1 q => ?_)
  cases f with
  | next => exact wpAny_execs_nil q
  | ret v => exact q
  | brk => exact q
  | cont => exact q
def tBreak : TS := fun D σ H => D.bk σ H
def tCont : TS := fun D σ H => D.ct σ H
theorem ps_pass : PS X (.Pass pos) tNext := fun _ _ σ H _ I h => wpAny_Pass ⟨σ, H, I, h⟩
theorem ps_break : PS X (.Break pos) tBreak := fun _ _ σ H _ I h => wpAny_Break ⟨σ, H, I, h⟩
theorem ps_continue : PS X (.Continue pos) tCont := fun _ _ σ H _ I h => wpAny_Continue ⟨σ, H, I, h⟩
/-- in a def's body nothing is shown -/
theorem Inv.quiet {pins : List (Addr × Obj)} {σ : St} {H : Hp} {s : Shared} (I : Inv X pins σ H s) : interactive X.env = false := by simp [interactive, I.ok.kind]
/-- a docstring -/
theorem ps_doc {x j pos pos'} : PS X (.Expr (.Constant (.str x) j pos) pos') tNext := fun _ s σ H _ I h => wpAny_Expr (Calls.Constant_str (show SP X _ _ .next { s with toks := s.toks + 1 } from ⟨σ, H, I.tok _, h⟩)) I.quiet
/-- an expression whose value is dropped -/
def tDrop (te : TE) : TS := fun D σ H => te σ H fun _ H1 => D.nx σ H1
theorem ps_expr (he : PE X e te) (hs : swapsWith e none pos.line X.env = pure false := by rfl) : PS X (.Expr e pos) (tDrop te) := by
  intro pins s σ H D I h
  exact wpAny_Expr_any (thn (he pins s σ H _ I h) fun v s1 ⟨x, H1, I1, r1, q1⟩ => ⟨σ, H1, I1, q1⟩) I.quiet hs
def tRet (te : TE) : TS := fun D σ H => te σ H D.rt
theorem ps_ret (he : PE X e te) : PS X (.Return (some e) pos) (tRet te) := by
  intro pins s σ H D I h
  exact wpAny_Return_some (thn (he pins s σ H _ I h) fun v s1 ⟨x, H1, I1, r1, q1⟩ => ⟨x, σ, H1, I1, r1, q1⟩)
def tRetN : TS := fun D _ H => D.rt .non H
theorem ps_retN : PS X (.Return none pos) tRetN := fun _ _ σ H _ I h => wpAny_Return_none ⟨.non, σ, H, I, rfl, h⟩
def tIfS (c : TT) (t u : TS) : TS := fun D σ H => c σ H fun b H1 => if b = true then t D σ H1 else u D σ H1
theorem ps_if {c : Expr} {a b : List Stmt} {tc : TT} (hc : PT X c tc) (ha : PSs X a t) (hb : PSs X b u) : PS X (.If c a b pos) (tIfS tc t u) := by
  intro pins s σ H D I h
  refine wpAny_If (thn (hc pins s σ H _ I h) fun d s1 ⟨H1, I1, q1⟩ => ?_)
  cases d with
  | true => exact ha pins s1 σ H1 D I1 q1
  | false => exact hb pins s1 σ H1 D I1 q1
/-- code that the proof never comes to -/
def tNever : TS := fun _ _ _ => False
theorem ps_never : PS X st tNever := fun _ _ _ _ _ _ h => h.elim
theorem pss_never {sts : List Stmt} : PSs X sts tNever := fun _ _ _ _ _ _ h => h.elim
end

/-! ### targets -/
abbrev TG := V → St → Hp → (St → Hp → Prop) → Prop
abbrev TGs := List V → St → Hp → (St → Hp → Prop) → Prop
def PG (X : Cx) (target : Expr) (t : TG) : Prop :=
  ∀ (pins : List (Addr × Obj)) (s : Shared) (σ : St) (H : Hp) (v : V) (u : Value) (Q : St → Hp → Prop), Inv X pins σ H s → RelV v u → t v σ H Q →
    wpAny (model X.prog X.w) X.A (assign target X.env u) (fun _ s' => ∃ σ' H', Inv X pins σ' H' s' ∧ Q σ' H') X.xe s
/-- several targets, one after another -/
def PGs (X : Cx) (ts : List Expr) (t : TGs) : Prop :=
  ∀ (pins : List (Addr × Obj)) (s : Shared) (σ : St) (H : Hp) (vs : List V) (us : List Value) (Q : St → Hp → Prop), Inv X pins σ H s → Vals vs us → t vs σ H Q →
    wpAny (model X.prog X.w) X.A (assignInOrder ((assignEach ts X.env).map (·.2)) us) (fun _ s' => ∃ σ' H', Inv X pins σ' H' s' ∧ Q σ' H') X.xe s
/-- o[i] = v, by values -/
abbrev TSet := V → V → V → Hp → (Hp → Prop) → Prop
def PSet (X : Cx) (t : TSet) : Prop :=
  ∀ (pins : List (Addr × Obj)) (s : Shared) (σ : St) (H : Hp) (o i v : V) (ov iv u : Value) (Q : Hp → Prop), Inv X pins σ H s → RelV o ov → RelV i iv → RelV v u → t o i v H Q →
    wpAny (model X.prog X.w) X.A (setItem ov iv u) (fun _ s' => ∃ H', Inv X pins σ H' s' ∧ Q H') X.xe s
/-- a op= b, by values -/
abbrev TIp := V → V → Hp → VK → Prop
def PIp (X : Cx) (op : Operator) (t : TIp) : Prop :=
  ∀ (pins : List (Addr × Obj)) (s : Shared) (σ : St) (H : Hp) (x y : V) (v u : Value) (Q : VK), Inv X pins σ H s → RelV x v → RelV y u → t x y H Q →
    wpAny (model X.prog X.w) X.A (inplaceOp op v u) (EP X pins σ Q) X.xe s
section
variable {X : Cx} {pos : Pos}
def gName (i : Nat) : TG := fun v σ H Q => Q (σ.set i (some v)) H
theorem pg_name {i : Nat} {x : Str} (hN : X.N.Nodup) (hi : X.N[i]? = some x) (hx : Loc X.env.scope x) (hf : X.fn x = true ∨ X.env.scope.names.lookup x = some .local := by first | exact .inl rfl | exact .inr rfl | assumption) : PG X (.Name x pos) (gName i) := by
  intro pins s σ H v u Q I r h
  exact wpAny_assign_Name (store_ok I hN hi hx r (fun s' I' => ⟨_, H, I', h⟩) hf)
def gNil : TGs := fun vs σ H Q => vs = [] ∧ Q σ H
def gCons (t : TG) (u : TGs) : TGs := fun vs σ H Q => ∃ v r, vs = v :: r ∧ t v σ H fun σ' H' => u r σ' H' Q
theorem pgs_nil : PGs X [] gNil := by
  intro pins s σ H vs us Q I r h
  obtain ⟨e, h⟩ := h
  subst e
  cases r
  exact assignInOrder_nil ⟨σ, H, I, h⟩
theorem pgs_cons {e : Expr} {es : List Expr} {t : TG} {u : TGs} (h1 : PG X e t) (h2 : PGs X es u)
    (hs : (assignEach (e :: es) X.env).map (·.2) = assign e X.env :: (assignEach es X.env).map (·.2) := by rfl) : PGs X (e :: es) (gCons t u) := by
  intro pins s σ H vs us Q I r h
  obtain ⟨v, vr, e1, h⟩ := h
  subst e1
  cases r with
  | cons r rr =>
    rw [hs]
    refine assignInOrder_cons (thn (h1 pins s σ H _ _ _ I r h) fun _ s1 ⟨σ1, H1, I1, q1⟩ => ?_)
    exact h2 pins s1 σ1 H1 _ _ Q I1 rr q1
/-- (a, b, ..) = a tuple of that length -/
def gTup (K : PySem.W.Frag) (n : Nat) (t : TGs) : TG := fun v σ H Q => ∃ a xs, v = .ref a ∧ SqT K H a xs ∧ xs.length = n ∧ t xs σ H Q
theorem pg_tup {es : List Expr} {k : Nat} {t : TGs} {n : Nat} (hc : X.calm = true) (h : PGs X es t)
    (hn : (assignEach es X.env).length = n := by rfl) (hst : (assignEach es X.env).findIdx? (·.1) = none := by rfl) : PG X (.Tuple es k pos) (gTup X.K n t) := by
  intro pins s σ H v u Q I r hw
  obtain ⟨a, xs, e1, hq, hl, hw⟩ := hw
  subst e1
  cases r
  obtain ⟨its, rv, ht, hz⟩ := I.tuple hq
  refine assign_Tuple_tuple (I.ok.hd hc) ht (by simp [hn, ← hl, rv.length]) hst fun h' hx => ?_
  have I1 : Inv X pins σ H { s with heap := h' } := I.kept (t' := s.toks) fun b o e => hx b o (Nat.ne_of_lt (Heap.lt_size e)) e
  exact h pins _ σ H xs _ Q I1 (by simpa using rv) hw
/-- o[i] = .. -/
def gSub (to ti : TE) (t : TSet) : TG := fun v σ H Q => to σ H fun o H1 => ti σ H1 fun i H2 => t o i v H2 fun H3 => Q σ H3
theorem pg_sub {o i : Expr} {to ti : TE} {t : TSet} (ho : PE X o to) (hi : PE X i ti) (hs : PSet X t)
    (ha : ∀ v, assign (.Subscript o i pos) X.env v = (do
      let ov ← holding [v] (eval o X.env)
      let iv ← holding [v, ov] (eval i X.env)
      standAt pos
      holding [v, ov, iv] (setItem ov iv v)
      release [v, ov, iv] []) := by intro _; rfl) : PG X (.Subscript o i pos) (gSub to ti t) := by
  intro pins s σ H v u Q I r h
  rw [ha]
  refine wpAny_bind (wpAny_holding (thn (ho pins s σ H _ I h) fun ov s1 ⟨x, H1, I1, r1, q1⟩ => ?_))
  refine wpAny_bind (wpAny_holding (thn (hi pins s1 σ H1 _ I1 q1) fun iv s2 ⟨y, H2, I2, r2, q2⟩ => ?_))
  refine wpAny_bind (wpAny_standAt (wpAny_bind (wpAny_holding (thn (hs pins s2 σ H2 x y v ov iv u _ I2 r1 r2 r q2) fun _ s3 ⟨H3, I3, q3⟩ => ?_))))
  exact wpAny_release ⟨σ, H3, I3, q3⟩
/-- target = value -/
def tAsg (te : TE) (g : TG) : TS := fun D σ H => te σ H fun x H1 => g x σ H1 D.nx
theorem ps_asg {tg e : Expr} {te : TE} {g : TG} (he : PE X e te) (hg : PG X tg g) (hs : swapsWithSole [tg] e pos.line X.env = pure false := by rfl) (hw : swappedStores [tg] e X.env = pure none := by rfl)
    (h1 : (assignEach [tg] X.env).map (·.2) = [assign tg X.env] := by rfl) : PS X (.Assign [tg] e pos) (tAsg te g) := by
  intro pins s σ H D I h
  refine wpAny_Assign_stores (thn (he pins s σ H _ I h) fun v s1 ⟨x, H1, I1, r1, q1⟩ => ?_) hs hw
  rw [h1]
  exact thn (hg pins s1 σ H1 x v _ I1 r1 q1) fun _ s2 q => q
/-- name = value -/
theorem ps_set {i : Nat} {x : Str} {e : Expr} {te : TE} {pos' : Pos} (hN : X.N.Nodup) (hi : X.N[i]? = some x) (hx : Loc X.env.scope x) (he : PE X e te) (hs : swapsWith e (some (.Name x pos')) pos.line X.env = pure false := by rfl) (hf : X.fn x = true ∨ X.env.scope.names.lookup x = some .local := by first | exact .inl rfl | exact .inr rfl | assumption) :
    PS X (.Assign [.Name x pos'] e pos) (tAsg te (gName i)) := by
  intro pins s σ H D I h
  refine wpAny_Assign_Name (thn (he pins s σ H _ I h) fun v s1 ⟨y, H1, I1, r1, q1⟩ => ?_) hs
  exact store_ok I1 hN hi hx r1 (fun s2 I2 => ⟨_, H1, I2, q1⟩) hf
/-- a, b = x, y with plain local names: stored from the right; the pair itself is not tracked (the opening rows as in PyProof/Rows/TupAssign.lean:23) -/
def tPar (i j : Nat) (ta : TA) : TS := fun D σ H => ta σ H fun vs H1 => ∃ v w, vs = [v, w] ∧ D.nx ((σ.set i (some v)).set j (some w)) H1
theorem ps_par {i j : Nat} {x y : Str} {a b : Expr} {ta : TA} {px py pt : Pos} {kt k2 pt2} (hc : X.calm = true) (hN : X.N.Nodup) (hi : X.N[i]? = some x) (hj : X.N[j]? = some y) (hij : i ≠ j)
    (hx : X.env.scope.names.lookup x = some .local) (hy : X.env.scope.names.lookup y = some .local) (ha : PA X [a, b] ta)
    (hw : swappedStores [.Tuple [.Name x px, .Name y py] kt pt] (.Tuple [a, b] k2 pt2) X.env = pure (some [x, y]))
    (hs : swapsWithSole [.Tuple [.Name x px, .Name y py] kt pt] (.Tuple [a, b] k2 pt2) pos.line X.env = pure false := by rfl) :
    PS X (.Assign [.Tuple [.Name x px, .Name y py] kt pt] (.Tuple [a, b] k2 pt2) pos) (tPar i j ta) := by
  intro pins s σ H D I h
  rw [exec_Assign_arm]
  refine wpAny_bind (wpAny_standAt ?_)
  rw [hs]
  refine wpAny_bind (wpAny_pure ?_)
  rw [if_neg (by decide)]
  refine wpAny_bind (Tuple_ (thn (ha _ pins s σ H _ I h) fun us s1 ⟨vs, H1, I1, r1, q1⟩ => ?_))
  obtain ⟨v, w, e1, q1⟩ := q1
  subst e1
  obtain ⟨u1, u2, rfl, rv, rw'⟩ : ∃ u1 u2, us = [u1, u2] ∧ RelV v u1 ∧ RelV w u2 := by
    cases r1 with
    | cons p q =>
      cases q with
      | cons p' q' =>
        cases q'
        exact ⟨_, _, rfl, p, p'⟩
  refine wpAny_newObj_type ?_ (by show 2 ≤ sizeLine; decide)
  have I2 : Inv X pins σ H1 { s1 with heap := s1.heap.push { cls := .type "tuple", data := .seq [u1, u2].toArray } } := I1.kept (t' := s1.toks) fun b o e => Heap.get?_push_of_some _ e
  rw [hw]
  refine wpAny_bind (wpAny_pure ?_)
  show wpAny (model X.prog X.w) X.A (do rule "assign.swapped-stores"; let items ← unpackItems (.ref s1.heap.objs.size) 2 none; assignInOrder [fun v => bindName X.env y v, fun v => bindName X.env x v] items.reverse; pure Flow.next) _ _ _
  refine wpAny_bind (wpAny_rule (wpAny_bind (unpackItems_tuple (items := #[u1, u2]) (I.ok.hd hc) (IsTup.new s1.heap _) fun h' hx' => ?_)))
  have I3 := I2.kept (h' := h') (t' := s1.toks) fun b o e => hx' b o (Nat.ne_of_lt (Heap.lt_size e)) e
  show wpAny _ _ (assignInOrder [fun v => bindName X.env y v, fun v => bindName X.env x v] [u2, u1] >>= fun _ => pure Flow.next) _ _ _
  refine wpAny_bind (assignInOrder_cons (wpAny_bindName (store_ok I3 hN hj (.inl hy) rw' (fun s2 I4 => ?_) (.inr hy))))
  refine assignInOrder_cons (wpAny_bindName (store_ok I4 hN hi (.inl hx) rv (fun s3 I5 => assignInOrder_nil (wpAny_pure ?_)) (.inr hx)))
  rw [List.set_comm _ _ (Ne.symm hij)] at I5
  exact ⟨_, H1, I5, q1⟩
/-- name op= e -/
def tAug (i : Nat) (te : TE) (ti : TIp) : TS := fun D σ H => ∃ x, σ[i]? = some (some x) ∧ te σ H fun y H1 => ti x y H1 fun z H2 => D.nx (σ.set i (some z)) H2
theorem ps_aug {i : Nat} {x : Str} {e : Expr} {te : TE} {op : Operator} {ti : TIp} {pos' : Pos} (hN : X.N.Nodup) (hi : X.N[i]? = some x) (hx : Loc X.env.scope x) (he : PE X e te) (ho : PIp X op ti) (hf : X.fn x = true ∨ X.env.scope.names.lookup x = some .local := by first | exact .inl rfl | exact .inr rfl | assumption) :
    PS X (.AugAssign (.Name x pos') op e pos) (tAug i te ti) := by
  intro pins s σ H D I h
  obtain ⟨v, e1, h⟩ := h
  obtain ⟨m, hn, hl⟩ := I.loc
  have vis : Vis X.env.scope x := by rcases hx with k | k; exact .inl k; exact .inr (.inl k)
  obtain ⟨u, r, l⟩ := hl i x v hi e1 vis
  refine wpAny_AugAssign_Name ?_
  have go : wpAny (model X.prog X.w) X.A (eval e X.env) (fun w s₂ => wpAny (model X.prog X.w) X.A (inplaceOp op u w) (fun r s₃ => wpAny (model X.prog X.w) X.A (storeName X.env x r) (fun _ => SP X pins D .next) X.xe s₃) X.xe s₂) X.xe s := by
    refine thn (he pins s σ H _ I h) fun w s1 ⟨y, H1, I1, r1, q1⟩ => ?_
    refine thn (ho pins s1 σ H1 v y u w _ I1 r r1 q1) fun z s2 ⟨zv, H2, I2, r2, q2⟩ => ?_
    exact store_ok I2 hN hi hx r2 (fun s3 I3 => ⟨_, H2, I3, q2⟩) hf
  rcases l with ⟨hk, hm⟩ | ⟨hk, c, hc, hcell⟩
  · exact wpAny_loadName_local I.ok.kind hk hn hm go
  · rcases hk with hk | hk
    · exact wpAny_loadName_cell I.ok.kind hk hc hcell go
    · rcases hx with k | k
      · have : X.env.scope.names.lookup x = some .free := hk
        rw [k] at this; cases this
      · have : X.env.scope.names.lookup x = some .free := hk
        rw [k] at this; cases this
/-- o[i] op= e -/
def tAugS (to ti te : TE) (tget : V → V → Hp → VK → Prop) (tip : TIp) (tset : TSet) : TS := fun D σ H => to σ H fun o H1 => ti σ H1 fun i H2 => tget o i H2 fun x H3 => te σ H3 fun y H4 => tip x y H4 fun z H5 => tset o i z H5 fun H6 => D.nx σ H6
/-- o[i], by values -/
def PGet (X : Cx) (t : V → V → Hp → VK → Prop) : Prop :=
  ∀ (pins : List (Addr × Obj)) (s : Shared) (σ : St) (H : Hp) (o i : V) (ov iv : Value) (Q : VK), Inv X pins σ H s → RelV o ov → RelV i iv → t o i H Q →
    wpAny (model X.prog X.w) X.A (getItem ov iv) (EP X pins σ Q) X.xe s
theorem ps_augS {o i e : Expr} {to ti te : TE} {tget : V → V → Hp → VK → Prop} {tip : TIp} {tset : TSet} {op : Operator} {tpos : Pos} (ho : PE X o to) (hi : PE X i ti) (hg : PGet X tget) (he : PE X e te) (hp : PIp X op tip) (hs : PSet X tset)
    (ha : ∀ ov iv new, augStore i ov iv new = (do holding [new, ov, iv] (setItem ov iv new); release [new, ov, iv] []; pure .next) := by intros; rfl) : PS X (.AugAssign (.Subscript o i tpos) op e pos) (tAugS to ti te tget tip tset) := by
  intro pins s σ H D I h
  refine wpAny_AugAssign_SubscriptAny (thn (ho pins s σ H _ I h) fun ov s1 ⟨x1, H1, I1, r1, q1⟩ => ?_) ha
  refine thn (hi pins s1 σ H1 _ I1 q1) fun iv s2 ⟨x2, H2, I2, r2, q2⟩ => ?_
  refine thn (hg pins s2 σ H2 x1 x2 ov iv _ I2 r1 r2 q2) fun old s3 ⟨x3, H3, I3, r3, q3⟩ => ?_
  refine thn (he pins s3 σ H3 _ I3 q3) fun v s4 ⟨x4, H4, I4, r4, q4⟩ => ?_
  refine thn (hp pins s4 σ H4 x3 x4 old v _ I4 r3 r4 q4) fun new s5 ⟨x5, H5, I5, r5, q5⟩ => ?_
  exact thn (hs pins s5 σ H5 x1 x2 x5 ov iv new _ I5 r1 r2 r5 q5) fun _ s6 ⟨H6, I6, q6⟩ => ⟨σ, H6, I6, q6⟩
/-- ints -/
def ipI (f : Int → Int → Int) : TIp := fun x y H Q => ∃ i j, x = .int i ∧ y = .int j ∧ Q (.int (f i j)) H
theorem ip_add : PIp X .Add (ipI fun i j => i + j) := by
  intro pins s σ H x y v u Q I r1 r2 h
  obtain ⟨i, j, e1, e2, q⟩ := h
  subst e1; subst e2
  obtain ⟨t, rfl⟩ := r1
  obtain ⟨t', rfl⟩ := r2
  exact iadd_int ⟨.int _, H, I.tok _, ⟨_, rfl⟩, q⟩
theorem ip_sub : PIp X .Sub (ipI fun i j => i - j) := by
  intro pins s σ H x y v u Q I r1 r2 h
  obtain ⟨i, j, e1, e2, q⟩ := h
  subst e1; subst e2
  obtain ⟨t, rfl⟩ := r1
  obtain ⟨t', rfl⟩ := r2
  exact isub_int ⟨.int _, H, I.tok _, ⟨_, rfl⟩, q⟩
end

/-! ### while -/
section
variable {X : Cx} {pos : Pos}
/-- the invariant W with its measure -/
def tWhile (c : TT) (tb : TS) : TS := fun D σ H => ∃ W : Nat → St → Hp → Prop, (∃ m, W m σ H) ∧ ∀ m σ H, W m σ H →
  c σ H fun b H1 => if b = true then ∃ N : St → Hp → Prop, (∀ σ' H', N σ' H' → ∃ m', m' < m ∧ W m' σ' H') ∧ tb { D with nx := N, ct := N, bk := D.nx } σ H1 else D.nx σ H1
theorem ps_while {c : Expr} {body : List Stmt} {tc : TT} {tb : TS} (hp : PassesOwn (model X.prog X.w) X.A X.env X.xe) (hc : PT X c tc) (hb : PSs X body tb) : PS X (.While c body [] pos) (tWhile tc tb) := by
  intro pins s σ H D I h
  obtain ⟨W, ⟨m0, w0⟩, turn⟩ := h
  refine wpAny_While (codeAny_whileLoop (fun n s' => ∃ σ' H', Inv X pins σ' H' s' ∧ W n σ' H') ?_ m0 ⟨σ, H, I, w0⟩)
  rintro n s1 ⟨σ1, H1, I1, w1⟩
  refine wpAny_passesOwn hp (thn (hc pins s1 σ1 H1 _ I1 (turn n σ1 H1 w1)) fun b s2 ⟨H2, I2, q2⟩ => ?_)
  cases b with
  | true =>
    obtain ⟨N, hN, q2⟩ := q2
    rw [if_pos rfl]
    refine wpAny_passesOwn hp (thn (hb pins s2 σ1 H2 _ I2 q2) fun f s3 q3 => ?_)
    cases f with
    | next =>
      obtain ⟨σ3, H3, I3, n3⟩ := q3
      obtain ⟨m', hm, w3⟩ := hN σ3 H3 n3
      exact ⟨m', hm, σ3, H3, I3, w3⟩
    | cont =>
      obtain ⟨σ3, H3, I3, n3⟩ := q3
      obtain ⟨m', hm, w3⟩ := hN σ3 H3 n3
      exact ⟨m', hm, σ3, H3, I3, w3⟩
    | brk => exact q3
    | ret v => exact q3
  | false =>
    rw [if_neg Bool.false_ne_true]
    exact wpAny_execs_nil ⟨σ1, H2, I2, q2⟩
end

/-! ### what a loop or a comprehension walks -/
/-- at turn i: it yields x (the heap may grow), or it stops -/
structure It where
  go : Nat → Hp → Prop
  yld : Nat → Hp → V → Hp → Prop
  stop : Nat → Hp → Prop
/-- the iterator's own objects may turn: they are not the frame's, not pinned, younger than the entry (or a comprehension's own) -/
def FpOk (X : Cx) (pins : List (Addr × Obj)) (H : Hp) (b : Addr) : Prop :=
  H b = none ∧ b ≠ X.env.locals ∧ b ∉ X.fs ∧ (b ∈ X.ex ∨ X.s₀.heap.objs.size ≤ b) ∧ (∀ x c, X.env.cells.lookup x = some c → c ≠ b) ∧ ∀ p ∈ X.pn ++ pins, p.1 ≠ b
theorem Inv.fpOk {X : Cx} {pins : List (Addr × Obj)} {σ : St} {H H' : Hp} {s : Shared} {b : Addr} (I : Inv X pins σ H s) (hb : s.heap.objs.size ≤ b) (hn : H' b = none) : FpOk X pins H' b := by
  refine ⟨hn, Nat.ne_of_gt (Nat.lt_of_lt_of_le I.lt hb), I.nofs hb, .inr (Nat.le_trans I.sz hb), fun x c e z => ?_, fun p hp z => ?_⟩
  · obtain ⟨v, q⟩ := I.cell x c e
    exact absurd (Nat.lt_of_lt_of_le q.lt (by rw [z]; exact hb)) (Nat.lt_irrefl _)
  · exact absurd (Nat.lt_of_lt_of_le (Heap.lt_size (I.pin p hp).1) (by rw [z]; exact hb)) (Nat.lt_irrefl _)
structure Turn (P : Program) (w : World) (K : PySem.W.Frag) (tg : Expr) (J : It) (fp : List Addr) (it : Addr) (tn : Nat → Heap → Prop) : Prop where
  mem : it ∈ fp
  obj : ∀ i h, tn i h → ∀ b ∈ fp, ∃ o, h.get? b = some o ∧ ∀ v, o.data ≠ .cell v
  keep : ∀ i h h', tn i h → (∀ b ∈ fp, ∀ o, h.get? b = some o → h'.get? b = some o) → tn i h'
  item : ∀ (X : Cx), X.prog = P → X.w = w → X.K = K → X.calm = true → ∀ (i : Nat) (pins : List (Addr × Obj)) (s : Shared) (σ : St) (H : Hp) (E : Value → Shared → Prop), Inv X pins σ H s → (∀ b ∈ fp, FpOk X pins H b) → tn i s.heap → J.go i H →
    wpAny (model P w) X.A (pyNext (.ref it)) (fun r s1 => ∃ u, r = some u ∧
      wpAny (model P w) X.A (letOwnedTupleGo tg (.ref it) u) (fun _ s2 => ∃ x H', Inv X pins σ H' s2 ∧ RelV x u ∧ J.yld i H x H' ∧ tn (i + 1) s2.heap ∧ ∀ b ∈ fp, H' b = none) E s1) E s
  done : ∀ (X : Cx), X.prog = P → X.w = w → X.K = K → X.calm = true → ∀ (i : Nat) (pins : List (Addr × Obj)) (s : Shared) (σ : St) (H : Hp) (E : Value → Shared → Prop), Inv X pins σ H s → (∀ b ∈ fp, FpOk X pins H b) → tn i s.heap → J.stop i H →
    wpAny (model P w) X.A (pyNext (.ref it)) (fun r s1 => r = none ∧ Inv X pins σ H s1) E s
  self : ∀ (A : Around) (i : Nat) (s : Shared) (Q : Value → Shared → Prop) (E : Value → Shared → Prop), tn i s.heap → Q (.ref it) s → wpAny (model P w) A (pyIter (.ref it)) Q E s
abbrev TI := St → Hp → (It → Hp → Prop) → Prop
/-- an iterator has come -/
def PIE (X : Cx) (pins : List (Addr × Obj)) (σ : St) (tg : Expr) (R : It → Hp → Prop) (itv : Value) (s2 : Shared) : Prop :=
  ∃ (it : Addr) (fp : List Addr) (tn : Nat → Heap → Prop) (J : It) (H' : Hp), itv = .ref it ∧ Inv X pins σ H' s2 ∧ Turn X.prog X.w X.K tg J fp it tn ∧ tn 0 s2.heap ∧ (∀ b ∈ fp, FpOk X pins H' b) ∧ R J H'
def PI (X : Cx) (tg iter : Expr) (wi : TI) : Prop :=
  ∀ (pins : List (Addr × Obj)) (s : Shared) (σ : St) (H : Hp) (R : It → Hp → Prop), Inv X pins σ H s → wi σ H R →
    wpAny (model X.prog X.w) X.A (eval iter X.env) (fun v s1 => wpAny (model X.prog X.w) X.A (pyIter v) (PIE X pins σ tg R) X.xe s1) X.xe s

/-- the step ahead of the store is nothing for an iterator that keeps no tuple -/
theorem go_of {M : Model} {A : Around} {E : Value → Shared → Prop} {s : Shared} {tg : Expr} {it : Addr} {u : Value} {o : Obj} {n : String} {vs : Array Value} {Q : Unit → Shared → Prop} (ho : s.heap.get? it = some o) (hc : o.cls = .type n) (hd : o.data = .fields vs)
    (hn : ["enumerate", "zip", "dict_itemiterator", "dict_reverseitemiterator", "odict_iterator", "itertools.zip_longest", "itertools.pairwise"].contains n = false) (hQ : Q () s) : wpAny M A (letOwnedTupleGo tg (.ref it) u) Q E s := by
  unfold letOwnedTupleGo
  cases tg <;> first
    | exact wpAny_pure hQ
    | (cases u <;> first
        | exact wpAny_pure hQ
        | (refine wpAny_bind (wpAny_load ho ?_)
           rw [hc, hd]
           show wpAny M A (if (["enumerate", "zip", "dict_itemiterator", "dict_reverseitemiterator", "odict_iterator", "itertools.zip_longest", "itertools.pairwise"].contains n && vs[0]? == some (rawInt _)) = true then _ else _) Q E s
           rw [if_neg (by intro h; rw [hn, Bool.false_and] at h; cases h)]
           exact wpAny_pure hQ))

/-- the list at a, as it stands at each turn (a loop may append to it) -/
def Itl (K : PySem.W.Frag) (a : Addr) : It :=
  ⟨fun i H => ∃ xs x, SqL K H a xs ∧ xs[i]? = some x, fun i H x H' => H' = H ∧ ∀ xs, SqL K H a xs → xs[i]? = some x, fun i H => ∃ xs, SqL K H a xs ∧ xs.length ≤ i⟩
def Itt (K : PySem.W.Frag) (a : Addr) : It :=
  ⟨fun i H => ∃ xs x, SqT K H a xs ∧ xs[i]? = some x, fun i H x H' => H' = H ∧ ∀ xs, SqT K H a xs → xs[i]? = some x, fun i H => ∃ xs, SqT K H a xs ∧ xs.length ≤ i⟩
/-- lo, lo + 1, .. (n of them) -/
def Itr (lo : Int) (n : Nat) : It := ⟨fun i _ => i < n, fun i H x H' => H' = H ∧ x = .int (lo + i), fun i _ => n ≤ i⟩
theorem turn_list {P : Program} {w : World} {K : PySem.W.Frag} {tg : Expr} (a it : Addr) : Turn P w K tg (Itl K a) [it] it (fun i h => h.IsListIter it a i) where
  mem := by simp
  obj := fun i h st b hb => by
    have e : b = it := by simpa using hb
    subst e
    obtain ⟨o, e, c, d⟩ := st
    exact ⟨o, e, fun v z => by rw [d] at z; cases z⟩
  keep := fun i h h' st k => st.at fun o e => k it (by simp) o e
  item := by
    intro X hP hw hK hc i pins s σ H E I hf st hg
    subst hP hw hK
    obtain ⟨xs, x, hq, hx⟩ := hg
    obtain ⟨its, rv, p, hz⟩ := I.list hq
    obtain ⟨u, hu, ru⟩ := rv.get hx
    obtain ⟨f0, f1, f2, f3, f4, f5⟩ := hf it (by simp)
    refine wpAny_pyNext_list_item st p.isList (x := u) (by simpa using hu) fun h' st' sb => ?_
    have I1 : Inv X pins σ H { s with heap := h' } := I.turned (t' := s.toks) (fun b o hb e => (sb.2 b hb).trans e) f0 f1 f3 f4 f5
    obtain ⟨o, e, c, d⟩ := id st'
    exact ⟨u, rfl, go_of (s := { s with heap := h' }) e c d (by decide) ⟨x, H, I1, ru, ⟨rfl, fun ys hy => by rw [I.list_inj hy hq]; exact hx⟩, st', fun b hb => (hf b hb).1⟩⟩
  done := by
    intro X hP hw hK hc i pins s σ H E I hf st hg
    subst hP hw hK
    obtain ⟨xs, hq, hx⟩ := hg
    obtain ⟨its, rv, p, hz⟩ := I.list hq
    obtain ⟨f0, f1, f2, f3, f4, f5⟩ := hf it (by simp)
    have hl := rv.length
    exact wpAny_pyNext_list_end (I.ok.hd hc) st p.isList (by simp; omega) fun h' eb => ⟨rfl, I.turned (t' := s.toks) (fun b o hb e => eb b o hb e) f0 f1 f3 f4 f5⟩
  self := fun _ _ _ _ _ st h => wpAny_pyIter_listiter st h
theorem turn_tuple {P : Program} {w : World} {K : PySem.W.Frag} {tg : Expr} (a it : Addr) : Turn P w K tg (Itt K a) [it] it (fun i h => h.IsTupleIter it a i) where
  mem := by simp
  obj := fun i h st b hb => by
    have e : b = it := by simpa using hb
    subst e
    obtain ⟨o, e, c, d⟩ := st
    exact ⟨o, e, fun v z => by rw [d] at z; cases z⟩
  keep := fun i h h' st k => st.at fun o e => k it (by simp) o e
  item := by
    intro X hP hw hK hc i pins s σ H E I hf st hg
    subst hP hw hK
    obtain ⟨xs, x, hq, hx⟩ := hg
    obtain ⟨its, rv, p, hz⟩ := I.tuple hq
    obtain ⟨u, hu, ru⟩ := rv.get hx
    obtain ⟨f0, f1, f2, f3, f4, f5⟩ := hf it (by simp)
    refine wpAny_pyNext_tuple_item st (show s.heap.IsTuple a its.toArray from p) (x := u) (by simpa using hu) fun h' st' sb => ?_
    have I1 : Inv X pins σ H { s with heap := h' } := I.turned (t' := s.toks) (fun b o hb e => (sb.2 b hb).trans e) f0 f1 f3 f4 f5
    obtain ⟨o, e, c, d⟩ := id st'
    exact ⟨u, rfl, go_of (s := { s with heap := h' }) e c d (by decide) ⟨x, H, I1, ru, ⟨rfl, fun ys hy => by rw [I.tuple_inj hy hq]; exact hx⟩, st', fun b hb => (hf b hb).1⟩⟩
  done := by
    intro X hP hw hK hc i pins s σ H E I hf st hg
    subst hP hw hK
    obtain ⟨xs, hq, hx⟩ := hg
    obtain ⟨its, rv, p, hz⟩ := I.tuple hq
    obtain ⟨f0, f1, f2, f3, f4, f5⟩ := hf it (by simp)
    have hl := rv.length
    exact wpAny_pyNext_tuple_end (I.ok.hd hc) st (show s.heap.IsTuple a its.toArray from p) (by simp; omega) fun h' eb => ⟨rfl, I.turned (t' := s.toks) (fun b o hb e => eb b o hb e) f0 f1 f3 f4 f5⟩
  self := fun _ _ _ _ _ st h => wpAny_pyIter_tupleiter st h
theorem turn_range {P : Program} {w : World} {K : PySem.W.Frag} {tg : Expr} (it : Addr) (lo : Int) (n : Nat) : Turn P w K tg (Itr lo n) [it] it (fun i h => IsRangeIter h it (lo + (i : Nat) * 1) ((n : Int) - (i : Nat)) 1) where
  mem := by simp
  obj := fun i h st b hb => by
    have e : b = it := by simpa using hb
    subst e
    exact ⟨_, st, fun v z => by
      have z' : Data.fields _ = Data.cell v := z
      cases z'⟩
  keep := fun i h h' st k => k it (by simp) _ st
  item := by
    intro X hP hw hK hc i pins s σ H E I hf st hg
    subst hP hw hK
    obtain ⟨f0, f1, f2, f3, f4, f5⟩ := hf it (by simp)
    have W := Walks.range (prog := X.prog) (w := X.w) (I.ok.hd hc) it lo 1 n
    refine W.item i s _ _ hg st fun v h' tk hv st' kk => ?_
    obtain ⟨t, rfl⟩ := hv
    have I1 : Inv X pins σ H { s with heap := h', toks := tk } := I.turned (fun b o hb e => kk b o (by simpa using hb) e) f0 f1 f3 f4 f5
    refine ⟨_, rfl, go_of (s := { s with heap := h', toks := tk }) (n := "range_iterator") st' rfl rfl (by decide) ⟨.int (lo + i), H, I1, ⟨t, ?_⟩, ⟨rfl, rfl⟩, st', fun b hb => (hf b hb).1⟩⟩
    rw [Int.mul_one]
  done := by
    intro X hP hw hK hc i pins s σ H E I hf st hg
    subst hP hw hK
    obtain ⟨f0, f1, f2, f3, f4, f5⟩ := hf it (by simp)
    exact wpAny_pyNext_range_end (I.ok.hd hc) st (by have : n ≤ i := hg; omega) fun h' eb => ⟨rfl, I.turned (t' := s.toks) (fun b o hb e => eb b o hb e) f0 f1 f3 f4 f5⟩
  self := fun _ _ _ _ _ st h => wpAny_pyIter_rangeiter st h
end L2

namespace L2
open PySem PySem.Spec PyProof.Rows
section
variable {X : Cx} {tg : Expr}
def iList (K : PySem.W.Frag) (tl : TE) : TI := fun σ H R => tl σ H fun x H1 => ∃ a, x = .ref a ∧ (∃ xs, SqL K H1 a xs) ∧ R (Itl K a) H1
def iTup (K : PySem.W.Frag) (tl : TE) : TI := fun σ H R => tl σ H fun x H1 => ∃ a, x = .ref a ∧ (∃ xs, SqT K H1 a xs) ∧ R (Itt K a) H1
theorem pi_list {l : Expr} {tl : TE} (hl : PE X l tl) : PI X tg l (iList X.K tl) := by
  intro pins s σ H R I h
  refine thn (hl pins s σ H _ I h) fun v s1 ⟨x, H1, I1, r1, q1⟩ => ?_
  obtain ⟨a, e, ⟨xs, hq⟩, q⟩ := q1
  subst e
  cases r1
  obtain ⟨its, rv, p, hz⟩ := I1.list hq
  refine wpAny_pyIter_list p.isList ?_
  refine ⟨s1.heap.objs.size, [s1.heap.objs.size], _, _, H1, rfl, I1.kept (t' := s1.toks) fun b o e => Heap.get?_push_of_some _ e, turn_list a _, ⟨_, Heap.get?_push_size _ rfl, rfl, rfl⟩, fun b hb => ?_, q⟩
  have e : b = s1.heap.objs.size := by simpa using hb
  subst e
  exact I1.fpOk (Nat.le_refl _) (I1.hok.fresh (Nat.le_refl _))
theorem pi_tup {l : Expr} {tl : TE} (hl : PE X l tl) : PI X tg l (iTup X.K tl) := by
  intro pins s σ H R I h
  refine thn (hl pins s σ H _ I h) fun v s1 ⟨x, H1, I1, r1, q1⟩ => ?_
  obtain ⟨a, e, ⟨xs, hq⟩, q⟩ := q1
  subst e
  cases r1
  obtain ⟨its, rv, p, hz⟩ := I1.tuple hq
  refine wpAny_pyIter_tuple (show s1.heap.IsTuple a its.toArray from p) ?_
  refine ⟨s1.heap.objs.size, [s1.heap.objs.size], _, _, H1, rfl, I1.kept (t' := s1.toks) fun b o e => Heap.get?_push_of_some _ e, turn_tuple a _, ⟨_, Heap.get?_push_size _ rfl, rfl, rfl⟩, fun b hb => ?_, q⟩
  have e : b = s1.heap.objs.size := by simpa using hb
  subst e
  exact I1.fpOk (Nat.le_refl _) (I1.hok.fresh (Nat.le_refl _))
/-- a range object just made, walked -/
theorem range_it {pins : List (Addr × Obj)} {σ : St} {H : Hp} {s : Shared} {R : It → Hp → Prop} {E : Value → Shared → Prop} {lo hi : Int} {t u v : Tok} {tk : Nat} (I : Inv X pins σ H s) (h1 : -(2 ^ 62) ≤ lo) (h2 : lo < 2 ^ 62) (h3 : -(2 ^ 62) ≤ hi) (h4 : hi < 2 ^ 62)
    (q : R (Itr lo (hi - lo).toNat) H) : wpAny (model X.prog X.w) X.A (pyIter (.ref s.heap.objs.size)) (PIE X pins σ tg R) E { s with heap := s.heap.push { cls := .type "range", data := .fields #[.int lo t, .int hi u, .int 1 v] }, toks := tk } := by
  refine wpAny_pyIter_range (IsRange.new ..) (small_one h1 h2 h3 h4) ?_
  have I1 : Inv X pins σ H { s with heap := s.heap.push { cls := .type "range", data := .fields #[.int lo t, .int hi u, .int 1 v] }, toks := tk } := I.kept fun b o e => Heap.get?_push_of_some _ e
  refine ⟨(s.heap.push { cls := .type "range", data := .fields #[.int lo t, .int hi u, .int 1 v] }).objs.size, [(s.heap.push { cls := .type "range", data := .fields #[.int lo t, .int hi u, .int 1 v] }).objs.size], _, _, H, rfl,
    I1.kept (t' := tk) fun b o e => Heap.get?_push_of_some _ e, turn_range _ lo (hi - lo).toNat, ?_, fun b hb => ?_, q⟩
  · have e1 : lo + ((0 : Nat) : Int) * 1 = lo := by simp
    have e2 : (((hi - lo).toNat : Nat) : Int) - ((0 : Nat) : Int) = Builtin.Range.rangeSize lo hi 1 := by rw [rangeSize_one]; split <;> omega
    show IsRangeIter _ _ (lo + ((0 : Nat) : Int) * 1) ((((hi - lo).toNat : Nat) : Int) - ((0 : Nat) : Int)) 1
    rw [e1, e2]
    exact Heap.get?_push_size _ rfl
  · have e : b = (s.heap.push { cls := .type "range", data := .fields #[.int lo t, .int hi u, .int 1 v] }).objs.size := by simpa using hb
    subst e
    exact I1.fpOk (Nat.le_refl _) (I1.hok.fresh (Nat.le_refl _))
def iRng1 (ta : TA) : TI := fun σ H R => ta σ H fun vs H1 => ∃ j : Int, vs = [.int j] ∧ -(2 ^ 62) ≤ j ∧ j < 2 ^ 62 ∧ R (Itr 0 j.toNat) H1
def iRng2 (ta : TA) : TI := fun σ H R => ta σ H fun vs H1 => ∃ i j : Int, vs = [.int i, .int j] ∧ (-(2 ^ 62) ≤ i ∧ i < 2 ^ 62 ∧ -(2 ^ 62) ≤ j ∧ j < 2 ^ 62) ∧ R (Itr i (j - i).toNat) H1
theorem pi_range1 {a : Expr} {ta : TA} {p pos : Pos} (hg : Gl X "range") (hm : X.mg "range" = none) (ha : PA X [a] ta) (hs : starEach [a] X.env = [(false, eval a X.env)] := by rfl) : PI X tg (.Call (.Name "range" p) [a] [] pos) (iRng1 ta) := by
  intro pins s σ H R I h
  refine Call_ (ld_blt I hg hm boot_range (PyProof.Rows.callWith_type1 (thn (ha pos pins s σ H _ I h) fun us s1 ⟨vs, H1, I1, r1, q1⟩ => ?_) hs rfl))
  obtain ⟨j, e, q1, q2, q⟩ := q1
  subst e
  cases r1 with
  | cons r rr =>
    cases rr
    obtain ⟨t, rfl⟩ := r
    exact call_range_1 (range_it I1 (by omega) (by omega) q1 q2 (by simpa using q))
theorem pi_range2 {a b : Expr} {ta : TA} {p pos : Pos} (hg : Gl X "range") (hm : X.mg "range" = none) (ha : PA X [a, b] ta) (hs : starEach [a, b] X.env = [(false, eval a X.env), (false, eval b X.env)] := by rfl) (hs2 : starEach [b] X.env = [(false, eval b X.env)] := by rfl) :
    PI X tg (.Call (.Name "range" p) [a, b] [] pos) (iRng2 ta) := by
  intro pins s σ H R I h
  refine Call_ (ld_blt I hg hm boot_range (PyProof.Rows.callWith_type1 (thn (ha pos pins s σ H _ I h) fun us s1 ⟨vs, H1, I1, r1, q1⟩ => ?_) (by rw [hs, hs2]) (by rw [hs2]; rfl)))
  obtain ⟨i, j, e, ⟨q1, q2, q3, q4⟩, q⟩ := q1
  subst e
  cases r1 with
  | cons r rr =>
    cases rr with
    | cons r' rr =>
      cases rr
      obtain ⟨t, rfl⟩ := r
      obtain ⟨t', rfl⟩ := r'
      exact call_range_2 (range_it I1 q1 q2 q3 q4 q)

/-! ### for -/
/-- W: the invariant by the turn and a measure; N: what the body is to reach -/
def tFor (wi : TI) (g : TG) (tb : TS) : TS := fun D σ H => wi σ H fun J H1 => ∃ W : Nat → Nat → St → Hp → Prop, (∃ m, W 0 m σ H1) ∧ ∀ i m σ H, W i m σ H →
  (J.stop i H ∧ D.nx σ H) ∨ (J.go i H ∧ ∃ N : St → Hp → Prop, (∀ σ' H', N σ' H' → ∃ m', m' < m ∧ W (i + 1) m' σ' H') ∧ ∀ x H', J.yld i H x H' → g x σ H' fun σ2 H2 => tb { D with nx := N, ct := N, bk := D.nx } σ2 H2)
/-- the records at fp as they stand -/
def pinsAt (fp : List Addr) (h : Heap) : List (Addr × Obj) := fp.filterMap fun b => (h.get? b).map fun o => (b, o)
theorem mem_pinsAt {fp : List Addr} {h : Heap} {b : Addr} {o : Obj} (hb : b ∈ fp) (e : h.get? b = some o) : (b, o) ∈ pinsAt fp h := List.mem_filterMap.mpr ⟨b, hb, by rw [e]; rfl⟩
theorem of_pinsAt {fp : List Addr} {h : Heap} {p : Addr × Obj} (hp : p ∈ pinsAt fp h) : p.1 ∈ fp ∧ h.get? p.1 = some p.2 := by
  obtain ⟨b, hb, e⟩ := List.mem_filterMap.mp hp
  cases q : h.get? b with
  | none => rw [q] at e; cases e
  | some o =>
    rw [q] at e
    have e' : (b, o) = p := Option.some.inj e
    subst e'
    exact ⟨hb, q⟩
theorem Inv.pinned {pins : List (Addr × Obj)} {σ : St} {H : Hp} {s : Shared} {fp : List Addr} (I : Inv X pins σ H s) (hf : ∀ b ∈ fp, FpOk X pins H b) (ho : ∀ b ∈ fp, ∃ o, s.heap.get? b = some o ∧ ∀ v, o.data ≠ .cell v) : Inv X (pins ++ pinsAt fp s.heap) σ H s :=
  I.pins_of fun p hp => (List.mem_append.mp hp).elim (fun z => I.pin p (List.mem_append_right _ z)) fun z => by
    obtain ⟨hb, e⟩ := of_pinsAt z
    obtain ⟨f0, f1, f2, _⟩ := hf p.1 hb
    obtain ⟨o, e', d⟩ := ho p.1 hb
    rw [e] at e'; cases e'
    exact ⟨e, f0, f1, f2, d⟩
theorem Inv.unpinned {pins pl : List (Addr × Obj)} {σ : St} {H : Hp} {s : Shared} (I : Inv X (pins ++ pl) σ H s) : Inv X pins σ H s := I.pins_of fun p hp => I.pin p (List.mem_append_right _ (List.mem_append_left _ hp))
theorem ps_for {iter : Expr} {body : List Stmt} {wi : TI} {g : TG} {tb : TS} {pos : Pos} (hp : PassesOwn (model X.prog X.w) X.A X.env X.xe) (hc : X.calm = true) (hi : PI X tg iter wi) (hg : PG X tg g) (hb : PSs X body tb)
    (hs : ∀ x, foldedSetIterable iter X.env x = pure x := by intro _; rfl) : PS X (.For tg iter body [] pos) (tFor wi g tb) := by
  intro pins s σ H D I h
  refine wpAny_For (thn (hi pins s σ H _ I h) fun v s1 h1 => thn h1 fun itv s2 h2 => ?_) hs
  obtain ⟨it, fp, tn, J, H2, e, I2, T, st2, f2, W, ⟨m0, w0⟩, turn⟩ := h2
  subst e
  -- what stays true of the iterator's objects through the loop
  have stat : ∀ {H' : Hp}, (∀ b ∈ fp, H' b = none) → ∀ b ∈ fp, FpOk X pins H' b := fun hn b hb => ⟨hn b hb, (f2 b hb).2⟩
  refine codeAny_forLoop_any (fun n s' => ∃ i σ' H', Inv X pins σ' H' s' ∧ tn i s'.heap ∧ (∀ b ∈ fp, H' b = none) ∧ W i n σ' H') ?_ m0 ⟨0, σ, H2, I2, st2, fun b hb => (f2 b hb).1, w0⟩
  rintro n s3 ⟨i, σ3, H3, I3, st3, fr3, w3⟩
  rcases turn i n σ3 H3 w3 with ⟨stop, qn⟩ | ⟨go, N, hN, step⟩
  · refine wpAny_passesOwn hp (thn (T.done X rfl rfl rfl hc i pins s3 σ3 H3 X.xe I3 (stat fr3) st3 stop) fun r s4 ⟨hr, I4⟩ => ?_)
    subst hr
    exact wpAny_execs_nil ⟨σ3, H3, I4, qn⟩
  · refine wpAny_passesOwn hp (thn (T.item X rfl rfl rfl hc i pins s3 σ3 H3 X.xe I3 (stat fr3) st3 go) fun r s4 ⟨u, hr, h4⟩ => ?_)
    subst hr
    refine wpAny_passesOwn hp (thn h4 fun _ s5 ⟨x, H5, I5, r5, y5, st5, fr5⟩ => ?_)
    have I5' := I5.pinned (stat fr5) (T.obj _ _ st5)
    refine wpAny_passesOwn hp (thn (hg _ s5 σ3 H5 x u _ I5' r5 (step x H5 y5)) fun _ s6 ⟨σ6, H6, I6, q6⟩ => ?_)
    refine wpAny_passesOwn hp (thn (hb _ s6 σ6 H6 _ I6 q6) fun f s7 q7 => ?_)
    have again : ∀ {σ7 : St} {H7 : Hp}, Inv X (pins ++ pinsAt fp s5.heap) σ7 H7 s7 → N σ7 H7 → ∃ m, m < n ∧ ∃ i σ' H', Inv X pins σ' H' s7 ∧ tn i s7.heap ∧ (∀ b ∈ fp, H' b = none) ∧ W i m σ' H' := fun {σ7 H7} I7 n7 => by
      obtain ⟨m', hm, w7⟩ := hN σ7 H7 n7
      refine ⟨m', hm, i + 1, σ7, H7, I7.unpinned, T.keep _ _ _ st5 fun b hb o e => (I7.pin (b, o) (List.mem_append_right _ (List.mem_append_right _ (mem_pinsAt hb e)))).1, fun b hb => ?_, w7⟩
      obtain ⟨o, e, d⟩ := T.obj _ _ st5 b hb
      exact (I7.pin (b, o) (List.mem_append_right _ (List.mem_append_right _ (mem_pinsAt hb e)))).2.1
    cases f with
    | next => obtain ⟨σ7, H7, I7, n7⟩ := q7; exact again I7 n7
    | cont => obtain ⟨σ7, H7, I7, n7⟩ := q7; exact again I7 n7
    | brk => obtain ⟨σ7, H7, I7, q7⟩ := q7; exact ⟨σ7, H7, I7.unpinned, q7⟩
    | ret v => obtain ⟨x7, σ7, H7, I7, r7, q7⟩ := q7; exact ⟨x7, σ7, H7, I7.unpinned, r7, q7⟩
end

/-! ### the forms one uses -/
/-- over a list that the body leaves as it is -/
theorem for_list {K : PySem.W.Frag} {a : Addr} {xs : List V} {g : TG} {tb : TS} {D : Ends} {σ : St} {H : Hp} (Pv : Nat → St → Hp → Prop) (h0 : Pv 0 σ H) (hl : ∀ i σ H, i ≤ xs.length → Pv i σ H → SqL K H a xs)
    (hs : ∀ i x σ H, xs[i]? = some x → Pv i σ H → g x σ H fun σ2 H2 => tb { D with nx := Pv (i + 1), ct := Pv (i + 1), bk := D.nx } σ2 H2) (hd : ∀ σ H, Pv xs.length σ H → D.nx σ H) :
    ∃ W : Nat → Nat → St → Hp → Prop, (∃ m, W 0 m σ H) ∧ ∀ i m σ H, W i m σ H →
      ((Itl K a).stop i H ∧ D.nx σ H) ∨ ((Itl K a).go i H ∧ ∃ N : St → Hp → Prop, (∀ σ' H', N σ' H' → ∃ m', m' < m ∧ W (i + 1) m' σ' H') ∧ ∀ x H', (Itl K a).yld i H x H' → g x σ H' fun σ2 H2 => tb { D with nx := N, ct := N, bk := D.nx } σ2 H2) := by
  refine ⟨fun i m σ H => m = xs.length - i ∧ i ≤ xs.length ∧ Pv i σ H, ⟨xs.length, by simp, Nat.zero_le _, h0⟩, ?_⟩
  rintro i m σ H ⟨rfl, hi, p⟩
  have q := hl i σ H hi p
  by_cases hlt : i < xs.length
  · refine .inr ⟨⟨xs, xs[i], q, by simp [hlt]⟩, Pv (i + 1), fun σ' H' p' => ⟨xs.length - (i + 1), by omega, rfl, hlt, p'⟩, fun x H' y => ?_⟩
    obtain ⟨e, y⟩ := y
    subst e
    exact hs i x σ _ (y xs q) p
  · have e : i = xs.length := by omega
    subst e
    exact .inl ⟨⟨xs, q, Nat.le_refl _⟩, hd σ H p⟩
theorem for_tup {K : PySem.W.Frag} {a : Addr} {xs : List V} {g : TG} {tb : TS} {D : Ends} {σ : St} {H : Hp} (Pv : Nat → St → Hp → Prop) (h0 : Pv 0 σ H) (hl : ∀ i σ H, i ≤ xs.length → Pv i σ H → SqT K H a xs)
    (hs : ∀ i x σ H, xs[i]? = some x → Pv i σ H → g x σ H fun σ2 H2 => tb { D with nx := Pv (i + 1), ct := Pv (i + 1), bk := D.nx } σ2 H2) (hd : ∀ σ H, Pv xs.length σ H → D.nx σ H) :
    ∃ W : Nat → Nat → St → Hp → Prop, (∃ m, W 0 m σ H) ∧ ∀ i m σ H, W i m σ H →
      ((Itt K a).stop i H ∧ D.nx σ H) ∨ ((Itt K a).go i H ∧ ∃ N : St → Hp → Prop, (∀ σ' H', N σ' H' → ∃ m', m' < m ∧ W (i + 1) m' σ' H') ∧ ∀ x H', (Itt K a).yld i H x H' → g x σ H' fun σ2 H2 => tb { D with nx := N, ct := N, bk := D.nx } σ2 H2) := by
  refine ⟨fun i m σ H => m = xs.length - i ∧ i ≤ xs.length ∧ Pv i σ H, ⟨xs.length, by simp, Nat.zero_le _, h0⟩, ?_⟩
  rintro i m σ H ⟨rfl, hi, p⟩
  have q := hl i σ H hi p
  by_cases hlt : i < xs.length
  · refine .inr ⟨⟨xs, xs[i], q, by simp [hlt]⟩, Pv (i + 1), fun σ' H' p' => ⟨xs.length - (i + 1), by omega, rfl, hlt, p'⟩, fun x H' y => ?_⟩
    obtain ⟨e, y⟩ := y
    subst e
    exact hs i x σ _ (y xs q) p
  · have e : i = xs.length := by omega
    subst e
    exact .inl ⟨⟨xs, q, Nat.le_refl _⟩, hd σ H p⟩
theorem for_range {lo : Int} {n : Nat} {g : TG} {tb : TS} {D : Ends} {σ : St} {H : Hp} (Pv : Nat → St → Hp → Prop) (h0 : Pv 0 σ H)
    (hs : ∀ i σ H, i < n → Pv i σ H → g (.int (lo + i)) σ H fun σ2 H2 => tb { D with nx := Pv (i + 1), ct := Pv (i + 1), bk := D.nx } σ2 H2) (hd : ∀ σ H, Pv n σ H → D.nx σ H) :
    ∃ W : Nat → Nat → St → Hp → Prop, (∃ m, W 0 m σ H) ∧ ∀ i m σ H, W i m σ H →
      ((Itr lo n).stop i H ∧ D.nx σ H) ∨ ((Itr lo n).go i H ∧ ∃ N : St → Hp → Prop, (∀ σ' H', N σ' H' → ∃ m', m' < m ∧ W (i + 1) m' σ' H') ∧ ∀ x H', (Itr lo n).yld i H x H' → g x σ H' fun σ2 H2 => tb { D with nx := N, ct := N, bk := D.nx } σ2 H2) := by
  refine ⟨fun i m σ H => m = n - i ∧ i ≤ n ∧ Pv i σ H, ⟨n, by simp, Nat.zero_le _, h0⟩, ?_⟩
  rintro i m σ H ⟨rfl, hi, p⟩
  by_cases hlt : i < n
  · refine .inr ⟨hlt, Pv (i + 1), fun σ' H' p' => ⟨n - (i + 1), by omega, rfl, hlt, p'⟩, fun x H' y => ?_⟩
    obtain ⟨e, y⟩ := y
    subst e y
    exact hs i σ _ hlt p
  · have e : i = n := by omega
    subst e
    exact .inl ⟨Nat.le_refl _, hd σ H p⟩
/-- while, by a word and a measure of the state -/
theorem while_by {c : TT} {tb : TS} {D : Ends} {σ : St} {H : Hp} (Pv : St → Hp → Prop) (μ : St → Hp → Nat) (h0 : Pv σ H)
    (hs : ∀ σ H, Pv σ H → c σ H fun b H1 => if b = true then tb { D with nx := fun σ' H' => Pv σ' H' ∧ μ σ' H' < μ σ H, ct := fun σ' H' => Pv σ' H' ∧ μ σ' H' < μ σ H, bk := D.nx } σ H1 else D.nx σ H1)
    (mono : ∀ σ H Q Q', (∀ b H1, Q b H1 → Q' b H1) → c σ H Q → c σ H Q') : tWhile c tb D σ H := by
  refine ⟨fun m σ H => m = μ σ H ∧ Pv σ H, ⟨_, rfl, h0⟩, ?_⟩
  rintro m σ H ⟨rfl, p⟩
  refine mono σ H _ _ (fun b H1 q => ?_) (hs σ H p)
  cases b with
  | true => exact ⟨_, fun σ' H' ⟨p', l⟩ => ⟨_, l, rfl, p'⟩, q⟩
  | false => exact q
end L2

namespace L2
open PySem PySem.Spec PyProof.Rows

abbrev R2 := V → V → Hp → VK → Prop
/-- a two-place operation on values: f is binaryOp op, inplaceOp op or compareOp op -/
def OpR (X : Cx) (f : Value → Value → Sem Value) (r : R2) : Prop :=
  ∀ (pins : List (Addr × Obj)) (s : Shared) (σ : St) (H : Hp) (x y : V) (v u : Value) (Q : VK), Inv X pins σ H s → RelV x v → RelV y u → r x y H Q →
    wpAny (model X.prog X.w) X.A (f v u) (EP X pins σ Q) X.xe s
/-- a one-place operation -/
def UnR (X : Cx) (f : Value → Sem Value) (r : V → Hp → VK → Prop) : Prop :=
  ∀ (pins : List (Addr × Obj)) (s : Shared) (σ : St) (H : Hp) (x : V) (v : Value) (Q : VK), Inv X pins σ H s → RelV x v → r x H Q →
    wpAny (model X.prog X.w) X.A (f v) (EP X pins σ Q) X.xe s
/-- a call of a value that is known (a builtin, a type) with values -/
def CallR (X : Cx) (f : Value) (r : List V → Hp → VK → Prop) : Prop :=
  ∀ (pins : List (Addr × Obj)) (s : Shared) (σ : St) (H : Hp) (xs : List V) (us : List Value) (Q : VK), Inv X pins σ H s → Vals xs us → r xs H Q →
    wpAny (model X.prog X.w) X.A (call f us) (EP X pins σ Q) X.xe s
/-- a value's truth -/
def TruR (X : Cx) (r : V → Hp → (Bool → Hp → Prop) → Prop) : Prop :=
  ∀ (pins : List (Addr × Obj)) (s : Shared) (σ : St) (H : Hp) (x : V) (v : Value) (Q : Bool → Hp → Prop), Inv X pins σ H s → RelV x v → r x H Q →
    wpAny (model X.prog X.w) X.A (truthy v) (TP X pins σ Q) X.xe s

def tOp (r : R2) (ta tb : TE) : TE := fun σ H Q => ta σ H fun x H1 => tb σ H1 fun y H2 => r x y H2 Q
def tUn (r : V → Hp → VK → Prop) (ta : TE) : TE := fun σ H Q => ta σ H fun x H1 => r x H1 Q
/-- ints in, under C, and a value out -/
def rI (C : Int → Int → Prop) (g : Int → Int → V) : R2 := fun x y H Q => ∃ i j, x = .int i ∧ y = .int j ∧ C i j ∧ Q (g i j) H
def rI0 (g : Int → Int → V) : R2 := fun x y H Q => ∃ i j, x = .int i ∧ y = .int j ∧ Q (g i j) H
def rU (g : Int → V) : V → Hp → VK → Prop := fun x H Q => ∃ i, x = .int i ∧ Q (g i) H

section
variable {X : Cx} {a b c : Expr} {ta tb tc : TE} {pos : Pos}

theorem binT (ha : PE X a ta) (hb : PE X b tb) {pins : List (Addr × Obj)} {s : Shared} {σ : St} {H : Hp} {R : V → V → Hp → Prop} (I : Inv X pins σ H s)
    (h : ta σ H fun x H1 => tb σ H1 fun y H2 => R x y H2) {Q : Value → Shared → Prop} {f : Value → Value → Sem Value}
    (hf : ∀ v u s2 x y H2, Inv X pins σ H2 s2 → RelV x v → RelV y u → R x y H2 → wpAny (model X.prog X.w) X.A (f v u) Q X.xe s2) :
    wpAny (model X.prog X.w) X.A (eval a X.env) (fun v s₁ => wpAny (model X.prog X.w) X.A (eval b X.env) (fun u s₂ => wpAny (model X.prog X.w) X.A (f v u) Q X.xe s₂) X.xe s₁) X.xe s := by
  refine thn (ha pins s σ H _ I h) fun v s1 ⟨x, H1, I1, r1, q1⟩ => ?_
  refine thn (hb pins s1 σ H1 _ I1 q1) fun u s2 ⟨y, H2, I2, r2, q2⟩ => ?_
  exact hf v u s2 x y H2 I2 r1 r2 q2

theorem pe_op {op : Operator} {r : R2} (ho : OpR X (binaryOp op) r) (ha : PE X a ta) (hb : PE X b tb) : PE X (.BinOp a op b pos) (tOp r ta tb) := by
  intro pins s σ H Q I h
  exact wpAny_BinOp (binT ha hb I h fun v u s2 x y H2 I2 rx ry q => ho pins s2 σ H2 x y v u Q I2 rx ry q)
theorem pe_un {op : UnaryOp} {r : V → Hp → VK → Prop} (ho : UnR X (unaryOp op) r) (ha : PE X a ta) : PE X (.UnaryOp op a pos) (tUn r ta) := by
  intro pins s σ H Q I h
  exact UnaryOp_ (thn (ha pins s σ H _ I h) fun v s1 ⟨x, H1, I1, r1, q1⟩ => ho pins s1 σ H1 x v Q I1 r1 q1)
/-- a op= e at a name: the name's slot i -/
theorem augR {op : Operator} {r : R2} (ho : OpR X (inplaceOp op) r) {pins : List (Addr × Obj)} {s : Shared} {σ : St} {H : Hp} {x y : V} {v u : Value} {Q : VK} (I : Inv X pins σ H s)
    (rx : RelV x v) (ry : RelV y u) (q : r x y H Q) : wpAny (model X.prog X.w) X.A (inplaceOp op v u) (EP X pins σ Q) X.xe s := ho pins s σ H x y v u Q I rx ry q

/-! ### ints -/
theorem opI {f : Value → Value → Sem Value} {C : Int → Int → Prop} {g : Int → Int → Int}
    (rule : ∀ (i j : Int) (t u : Tok) (s : Shared) (Q : Value → Shared → Prop) (E : Value → Shared → Prop), C i j → Q (.int (g i j) s.toks) { s with toks := s.toks + 1 } → wpAny (model X.prog X.w) X.A (f (.int i t) (.int j u)) Q E s) :
    OpR X f (rI C fun i j => .int (g i j)) := by
  intro pins s σ H x y v u Q I rx ry h
  obtain ⟨i, j, rfl, rfl, hc, q⟩ := h
  obtain ⟨t, rfl⟩ := rx
  obtain ⟨t', rfl⟩ := ry
  exact rule i j t t' s _ _ hc ⟨.int (g i j), H, I.tok _, ⟨_, rfl⟩, q⟩
theorem opI0 {f : Value → Value → Sem Value} {g : Int → Int → Int}
    (rule : ∀ (i j : Int) (t u : Tok) (s : Shared) (Q : Value → Shared → Prop) (E : Value → Shared → Prop), Q (.int (g i j) s.toks) { s with toks := s.toks + 1 } → wpAny (model X.prog X.w) X.A (f (.int i t) (.int j u)) Q E s) :
    OpR X f (rI0 fun i j => .int (g i j)) := by
  intro pins s σ H x y v u Q I rx ry h
  obtain ⟨i, j, rfl, rfl, q⟩ := h
  obtain ⟨t, rfl⟩ := rx
  obtain ⟨t', rfl⟩ := ry
  exact rule i j t t' s _ _ ⟨.int (g i j), H, I.tok _, ⟨_, rfl⟩, q⟩
theorem opB0 {f : Value → Value → Sem Value} {g : Int → Int → Bool}
    (rule : ∀ (i j : Int) (t u : Tok) (s : Shared) (Q : Value → Shared → Prop) (E : Value → Shared → Prop), Q (.bool (g i j)) s → wpAny (model X.prog X.w) X.A (f (.int i t) (.int j u)) Q E s) :
    OpR X f (rI0 fun i j => .bl (g i j)) := by
  intro pins s σ H x y v u Q I rx ry h
  obtain ⟨i, j, rfl, rfl, q⟩ := h
  obtain ⟨t, rfl⟩ := rx
  obtain ⟨t', rfl⟩ := ry
  exact rule i j t t' s _ _ ⟨.bl (g i j), H, I, rfl, q⟩

def CDiv (i j : Int) : Prop := 0 < j ∧ j < 1073741824
def CDivN (i j : Int) : Prop := j ≠ 0 ∧ j.natAbs < 1073741824
def CPow (i j : Int) : Prop := 0 ≤ j ∧ j ≤ 1000000 ∧ i.natAbs < 2 ^ 64
def CMul (i j : Int) : Prop := (-(2 ^ 64) < i ∧ i < 2 ^ 64) ∨ (-(2 ^ 64) < j ∧ j < 2 ^ 64)
theorem CMul.ok {i j : Int} (h : CMul i j) : IntMulOk i j := by
  rcases h with ⟨h1, h2⟩ | ⟨h1, h2⟩
  · exact .of_left (intBits_le_64 h1 h2)
  · exact .of_right (intBits_le_64 h1 h2)
theorem two_pow_nn (k : Nat) : (0 : Int) ≤ 2 ^ k := by
  rw [two_pow_cast]
  exact Int.natCast_nonneg _

theorem op_add : OpR X (binaryOp .Add) (rI0 fun i j => .int (i + j)) := opI0 fun _ _ _ _ _ _ _ q => add_int q
theorem op_sub : OpR X (binaryOp .Sub) (rI0 fun i j => .int (i - j)) := opI0 fun _ _ _ _ _ _ _ q => sub_int q
theorem op_mul : OpR X (binaryOp .Mult) (rI CMul fun i j => .int (i * j)) := opI fun _ _ _ _ _ _ _ hc q => mul_int q hc.ok
/-- // by a positive divisor -/
theorem op_fdiv : OpR X (binaryOp .FloorDiv) (rI CDiv fun i j => .int (i / j)) := opI fun i j _ _ _ _ _ hc q => by
  have h1 : (0 : Int) < j := hc.1
  have h2 : j < 1073741824 := hc.2
  exact floordiv_int (by omega) (by rw [Int.fdiv_eq_ediv_of_nonneg i (by omega)]; exact q) (.inl (PyProof.noPylong_small (by omega)))
theorem op_fdivN : OpR X (binaryOp .FloorDiv) (rI CDivN fun i j => .int (i.fdiv j)) := opI fun _ _ _ _ _ _ _ hc q => floordiv_int hc.1 q (.inl (PyProof.noPylong_small hc.2))
/-- % by a positive divisor of any size -/
theorem op_mod : OpR X (binaryOp .Mod) (rI (fun _ j => 0 < j) fun i j => .int (i % j)) := opI fun i j _ _ _ _ _ hc q => by
  have h1 : (0 : Int) < j := hc
  exact mod_int' (by omega) (by rw [Int.fmod_eq_emod_of_nonneg i (by omega)]; exact q)
theorem op_modN : OpR X (binaryOp .Mod) (rI (fun _ j => j ≠ 0) fun i j => .int (i.fmod j)) := opI fun _ _ _ _ _ _ _ hc q => mod_int' hc q
theorem op_pow : OpR X (binaryOp .Pow) (rI CPow fun i j => .int (i ^ j.toNat)) := opI fun _ _ _ _ _ _ _ hc q => pow_int_small hc.1 hc.2.1 hc.2.2 q
theorem op_shl : OpR X (binaryOp .LShift) (rI CPow fun i j => .int (i * 2 ^ j.toNat)) := opI fun _ _ _ _ _ _ _ hc q => lshift_int_small hc.1 hc.2.1 hc.2.2 q
theorem op_shr : OpR X (binaryOp .RShift) (rI (fun _ j => 0 ≤ j) fun i j => .int (i / 2 ^ j.toNat)) := opI fun i j _ _ _ _ _ hc q =>
  rshift_int hc (by rw [Int.fdiv_eq_ediv_of_nonneg i (two_pow_nn _)]; exact q)
theorem op_and : OpR X (binaryOp .BitAnd) (rI0 fun i j => .int (Builtin.bitAnd i j)) := opI0 fun _ _ _ _ _ _ _ q => and_int q
theorem op_or : OpR X (binaryOp .BitOr) (rI0 fun i j => .int (Builtin.bitOr i j)) := opI0 fun _ _ _ _ _ _ _ q => or_int q
theorem op_xor : OpR X (binaryOp .BitXor) (rI0 fun i j => .int (Builtin.bitXor i j)) := opI0 fun _ _ _ _ _ _ _ q => xor_int q

theorem iop_add : OpR X (inplaceOp .Add) (rI0 fun i j => .int (i + j)) := opI0 fun _ _ _ _ _ _ _ q => iadd_int q
theorem iop_sub : OpR X (inplaceOp .Sub) (rI0 fun i j => .int (i - j)) := opI0 fun _ _ _ _ _ _ _ q => isub_int q
theorem iop_mul : OpR X (inplaceOp .Mult) (rI CMul fun i j => .int (i * j)) := opI fun _ _ _ _ _ _ _ hc q => imul_int q hc.ok
theorem iop_fdiv : OpR X (inplaceOp .FloorDiv) (rI CDiv fun i j => .int (i / j)) := opI fun i j _ _ _ _ _ hc q => by
  have h1 : (0 : Int) < j := hc.1
  have h2 : j < 1073741824 := hc.2
  exact ifloordiv_int (by omega) (by rw [Int.fdiv_eq_ediv_of_nonneg i (by omega)]; exact q) (.inl (PyProof.noPylong_small (by omega)))
theorem iop_mod : OpR X (inplaceOp .Mod) (rI (fun _ j => 0 < j) fun i j => .int (i % j)) := opI fun i j _ _ _ _ _ hc q => by
  have h1 : (0 : Int) < j := hc
  exact imod_int (by omega) (by rw [Int.fmod_eq_emod_of_nonneg i (by omega)]; exact q)
theorem iop_shl : OpR X (inplaceOp .LShift) (rI CPow fun i j => .int (i * 2 ^ j.toNat)) := opI fun _ _ _ _ _ _ _ hc q => ilshift_int_small hc.1 hc.2.1 hc.2.2 q
theorem iop_shr : OpR X (inplaceOp .RShift) (rI (fun _ j => 0 ≤ j) fun i j => .int (i / 2 ^ j.toNat)) := opI fun i j _ _ _ _ _ hc q =>
  irshift_int hc (by rw [Int.fdiv_eq_ediv_of_nonneg i (two_pow_nn _)]; exact q)
theorem iop_and : OpR X (inplaceOp .BitAnd) (rI0 fun i j => .int (Builtin.bitAnd i j)) := opI0 fun _ _ _ _ _ _ _ q => iand_int q
theorem iop_or : OpR X (inplaceOp .BitOr) (rI0 fun i j => .int (Builtin.bitOr i j)) := opI0 fun _ _ _ _ _ _ _ q => ior_int q
theorem iop_xor : OpR X (inplaceOp .BitXor) (rI0 fun i j => .int (Builtin.bitXor i j)) := opI0 fun _ _ _ _ _ _ _ q => ixor_int q

theorem unI {f : Value → Sem Value} {g : Int → Int}
    (rule : ∀ (i : Int) (t : Tok) (s : Shared) (Q : Value → Shared → Prop) (E : Value → Shared → Prop), Q (.int (g i) s.toks) { s with toks := s.toks + 1 } → wpAny (model X.prog X.w) X.A (f (.int i t)) Q E s) :
    UnR X f (rU fun i => .int (g i)) := by
  intro pins s σ H x v Q I rx h
  obtain ⟨i, rfl, q⟩ := h
  obtain ⟨t, rfl⟩ := rx
  exact rule i t s _ _ ⟨.int (g i), H, I.tok _, ⟨_, rfl⟩, q⟩
theorem un_neg : UnR X (unaryOp .USub) (rU fun i => .int (-i)) := unI fun _ _ _ _ _ q => neg_int q
theorem un_inv : UnR X (unaryOp .Invert) (rU fun i => .int (Builtin.bitNot i)) := unI fun _ _ _ _ _ q => invert_int q

/-! ### bools among ints: n += (a < b) -/
theorem op_add_ib : OpR X (binaryOp .Add) (fun x y H Q => ∃ i k, x = .int i ∧ y = .bl k ∧ Q (.int (i + b2i k)) H) := by
  intro pins s σ H x y v u Q I rx ry h
  obtain ⟨i, k, rfl, rfl, q⟩ := h
  obtain ⟨t, rfl⟩ := rx
  cases ry
  exact add_int_bool ⟨.int (i + b2i k), H, I.tok _, ⟨_, rfl⟩, q⟩
end

/-! ### comparisons -/
/-- the scalars that == tells apart as data does -/
def scal : V → V → Bool
  | .non, .non => true | .non, .int _ => true | .int _, .non => true | .non, .bl _ => true | .bl _, .non => true | .non, .str _ => true | .str _, .non => true
  | .int _, .int _ => true | .bl _, .bl _ => true | .str _, .str _ => true | .byt _, .byt _ => true
  | .int _, .str _ => true | .str _, .int _ => true | .bl _, .str _ => true | .str _, .bl _ => true
  | _, _ => false
def rEq : R2 := fun x y H Q => scal x y = true ∧ Q (.bl (decide (x = y))) H
def rNe : R2 := fun x y H Q => scal x y = true ∧ Q (.bl (!decide (x = y))) H

theorem dec_int {i j : Int} : decide (V.int i = V.int j) = (i == j) := by
  rw [Bool.eq_iff_iff]
  simp
theorem dec_bl {i j : Bool} : decide (V.bl i = V.bl j) = (i == j) := by
  rw [Bool.eq_iff_iff]
  simp
theorem dec_str {i j : Str} : decide (V.str i = V.str j) = (i == j) := by
  rw [Bool.eq_iff_iff]
  simp
theorem dec_byt {i j : Array UInt8} : decide (V.byt i = V.byt j) = (i.toList == j.toList) := by
  rw [Bool.eq_iff_iff]
  cases i
  cases j
  simp

section
variable {X : Cx} {a b c : Expr} {ta tb tc : TE} {pos : Pos}
theorem fin_bl {pins : List (Addr × Obj)} {σ : St} {H : Hp} {s : Shared} {Q : VK} {k k' : Bool} (I : Inv X pins σ H s) (q : Q (.bl k) H) (e : k = k') : EP X pins σ Q (.bool k') s := by
  subst e
  exact ⟨.bl k, H, I, rfl, q⟩
theorem op_eq : OpR X (compareOp .Eq) rEq := by
  intro pins s σ H x y v u Q I rx ry h
  obtain ⟨hs, q⟩ := h
  cases x with
  | non =>
    cases rx
    cases y with
    | non => cases ry; exact PySem.EqNone.eq_none_none (fin_bl I q (by simp))
    | bl j => cases ry; exact PySem.EqNone.eq_none_bool (fin_bl I q (by simp))
    | int j => obtain ⟨t', rfl⟩ := ry; exact PySem.EqNone.eq_none_int (fin_bl I q (by simp))
    | str j => obtain ⟨t', rfl⟩ := ry; exact PySem.EqNone.eq_none_str (fin_bl I q (by simp))
    | _ => exact absurd (show false = true from hs) Bool.false_ne_true
  | bl i =>
    cases rx
    cases y with
    | non => cases ry; exact PySem.EqNone.eq_bool_none (fin_bl I q (by simp))
    | bl j => cases ry; exact eq_bool (fin_bl I q dec_bl)
    | str j => obtain ⟨t', rfl⟩ := ry; exact PySem.EqMixed.eq_bool_str (fin_bl I q (by simp))
    | _ => exact absurd (show false = true from hs) Bool.false_ne_true
  | int i =>
    obtain ⟨t, rfl⟩ := rx
    cases y with
    | non => cases ry; exact PySem.EqNone.eq_int_none (fin_bl I q (by simp))
    | int j => obtain ⟨t', rfl⟩ := ry; exact eq_int (fin_bl I q dec_int)
    | str j => obtain ⟨t', rfl⟩ := ry; exact PySem.EqMixed.eq_int_str (fin_bl I q (by simp))
    | _ => exact absurd (show false = true from hs) Bool.false_ne_true
  | str i =>
    obtain ⟨t, rfl⟩ := rx
    cases y with
    | non => cases ry; exact PySem.EqNone.eq_str_none (fin_bl I q (by simp))
    | bl j => cases ry; exact PySem.EqMixed.eq_str_bool (fin_bl I q (by simp))
    | int j => obtain ⟨t', rfl⟩ := ry; exact PySem.EqMixed.eq_str_int (fin_bl I q (by simp))
    | str j => obtain ⟨t', rfl⟩ := ry; exact eq_str (fin_bl I q dec_str)
    | _ => exact absurd (show false = true from hs) Bool.false_ne_true
  | byt i =>
    obtain ⟨t, rfl⟩ := rx
    cases y with
    | byt j => obtain ⟨t', rfl⟩ := ry; exact PySem.W.eq_bytes (fin_bl I q dec_byt)
    | _ => exact absurd (show false = true from hs) Bool.false_ne_true
  | _ => cases y <;> exact absurd (show false = true from hs) Bool.false_ne_true
theorem op_ne : OpR X (compareOp .NotEq) rNe := by
  intro pins s σ H x y v u Q I rx ry h
  obtain ⟨hs, q⟩ := h
  cases x with
  | non =>
    cases rx
    cases y with
    | non => cases ry; exact PySem.EqNone.ne_none_none (fin_bl I q (by simp))
    | bl j => cases ry; exact PySem.EqNone.ne_none_bool (fin_bl I q (by simp))
    | int j => obtain ⟨t', rfl⟩ := ry; exact PySem.EqNone.ne_none_int (fin_bl I q (by simp))
    | str j => obtain ⟨t', rfl⟩ := ry; exact PySem.EqNone.ne_none_str (fin_bl I q (by simp))
    | _ => exact absurd (show false = true from hs) Bool.false_ne_true
  | bl i =>
    cases rx
    cases y with
    | non => cases ry; exact PySem.EqNone.ne_bool_none (fin_bl I q (by simp))
    | bl j => cases ry; exact ne_bool (fin_bl I q (congrArg not dec_bl))
    | str j => obtain ⟨t', rfl⟩ := ry; exact PySem.EqMixed.ne_bool_str (fin_bl I q (by simp))
    | _ => exact absurd (show false = true from hs) Bool.false_ne_true
  | int i =>
    obtain ⟨t, rfl⟩ := rx
    cases y with
    | non => cases ry; exact PySem.EqNone.ne_int_none (fin_bl I q (by simp))
    | int j => obtain ⟨t', rfl⟩ := ry; exact ne_int (fin_bl I q (congrArg not dec_int))
    | str j => obtain ⟨t', rfl⟩ := ry; exact PySem.EqMixed.ne_int_str (fin_bl I q (by simp))
    | _ => exact absurd (show false = true from hs) Bool.false_ne_true
  | str i =>
    obtain ⟨t, rfl⟩ := rx
    cases y with
    | non => cases ry; exact PySem.EqNone.ne_str_none (fin_bl I q (by simp))
    | bl j => cases ry; exact PySem.EqMixed.ne_str_bool (fin_bl I q (by simp))
    | int j => obtain ⟨t', rfl⟩ := ry; exact PySem.EqMixed.ne_str_int (fin_bl I q (by simp))
    | str j => obtain ⟨t', rfl⟩ := ry; exact ne_str (fin_bl I q (congrArg not dec_str))
    | _ => exact absurd (show false = true from hs) Bool.false_ne_true
  | byt i =>
    obtain ⟨t, rfl⟩ := rx
    cases y with
    | byt j => obtain ⟨t', rfl⟩ := ry; exact PySem.W.ne_bytes (fin_bl I q (congrArg not dec_byt))
    | _ => exact absurd (show false = true from hs) Bool.false_ne_true
  | _ => cases y <;> exact absurd (show false = true from hs) Bool.false_ne_true

theorem op_lt : OpR X (compareOp .Lt) (rI0 fun i j => .bl (decide (i < j))) := opB0 fun _ _ _ _ _ _ _ q => lt_int q
theorem op_le : OpR X (compareOp .LtE) (rI0 fun i j => .bl (decide (i ≤ j))) := opB0 fun _ _ _ _ _ _ _ q => le_int q
theorem op_gt : OpR X (compareOp .Gt) (rI0 fun i j => .bl (decide (j < i))) := opB0 fun _ _ _ _ _ _ _ q => gt_int q
theorem op_ge : OpR X (compareOp .GtE) (rI0 fun i j => .bl (decide (j ≤ i))) := opB0 fun _ _ _ _ _ _ _ q => ge_int q
theorem op_lt_str : OpR X (compareOp .Lt) (fun x y H Q => ∃ i j, x = .str i ∧ y = .str j ∧ Q (.bl (decide (i.cps.toList < j.cps.toList))) H) := by
  intro pins s σ H x y v u Q I rx ry h
  obtain ⟨i, j, rfl, rfl, q⟩ := h
  obtain ⟨t, rfl⟩ := rx
  obtain ⟨t', rfl⟩ := ry
  exact lt_str (fin_bl I q rfl)
/-- the one string within the other -/
theorem op_in_str : OpR X (compareOp .In) (fun x y H Q => ∃ i j, x = .str i ∧ y = .str j ∧ Q (.bl (!(Builtin.Str.occurrences j i 0 j.length 1).isEmpty)) H) := by
  intro pins s σ H x y v u Q I rx ry h
  obtain ⟨i, j, rfl, rfl, q⟩ := h
  obtain ⟨t, rfl⟩ := rx
  obtain ⟨t', rfl⟩ := ry
  exact in_str (fin_bl I q rfl)

/-- is None, is not None: the right side a value none -/
theorem op_isN : OpR X (compareOp .Is) (fun x y H Q => y = .non ∧ Q (.bl (decide (x = .non))) H) := by
  intro pins s σ H x y v u Q I rx ry h
  obtain ⟨rfl, q⟩ := h
  cases ry
  refine is_none_gen (fin_bl I q ?_)
  cases x <;> first
    | (cases rx; rfl)
    | (obtain ⟨t, rfl⟩ := rx; rfl)
theorem op_notN : OpR X (compareOp .IsNot) (fun x y H Q => y = .non ∧ Q (.bl (!decide (x = .non))) H) := by
  intro pins s σ H x y v u Q I rx ry h
  obtain ⟨rfl, q⟩ := h
  cases ry
  refine isnot_none_gen (fin_bl I q ?_)
  cases x <;> first
    | (cases rx; rfl)
    | (obtain ⟨t, rfl⟩ := rx; rfl)

theorem op_notin_str : OpR X (compareOp .NotIn) (fun x y H Q => ∃ i j, x = .str i ∧ y = .str j ∧ Q (.bl (!(!(Builtin.Str.occurrences j i 0 j.length 1).isEmpty))) H) := by
  intro pins s σ H x y v u Q I rx ry h
  obtain ⟨i, j, rfl, rfl, q⟩ := h
  obtain ⟨t, rfl⟩ := rx
  obtain ⟨t', rfl⟩ := ry
  exact notIn_str (fin_bl I q rfl)
/-- is, is not of two objects that are tracked lists or instances -/
def isObj : HO → Bool
  | .lst _ => true
  | .ins _ _ _ => true
  | _ => false
theorem obj_there {pins : List (Addr × Obj)} {s : Shared} {σ : St} {H : Hp} {a : Addr} {o : HO} (I : Inv X pins σ H s) (h : H a = some o) (p : isObj o = true) : ∃ ob, s.heap.get? a = some ob ∧ ob.cls ≠ .type "tuple" := by
  cases o with
  | lst xs =>
    obtain ⟨_, its, n, _, e⟩ : xs.length ≤ sizeLine ∧ ∃ (its : List Value) (n : Nat), Vals xs its ∧ s.heap.get? a = some { cls := .type "list", data := .seq its.toArray n } := I.hok a _ h
    exact ⟨_, e, (by show Value.type "list" ≠ .type "tuple"; decide +kernel)⟩
  | ins C dx fs =>
    have x := I.hok a _ h
    obtain ⟨_, _, _, e, _⟩ := x
    exact ⟨_, e, (by show Value.ref C ≠ .type "tuple"; exact fun z => by cases z)⟩
  | _ => exact absurd (show false = true from p) Bool.false_ne_true
theorem op_is_ref : OpR X (compareOp .Is) (fun x y H Q => ∃ a b oa ob, x = .ref a ∧ y = .ref b ∧ H a = some oa ∧ isObj oa = true ∧ H b = some ob ∧ isObj ob = true ∧ Q (.bl (decide (a = b))) H) := by
  intro pins s σ H x y v u Q I rx ry h
  obtain ⟨a, b, oa, ob, rfl, rfl, ha, pa, hb, pb, q⟩ := h
  cases rx
  cases ry
  obtain ⟨o1, e1, n1⟩ := obj_there I ha pa
  obtain ⟨o2, e2, _⟩ := obj_there I hb pb
  by_cases z : a = b
  · subst z
    exact wpAny_is_ref_self (fin_bl I q (by simp))
  · exact wpAny_is_ref_other z e1 e2 n1 (fin_bl I q (by simp [z]))
theorem op_isnot_ref : OpR X (compareOp .IsNot) (fun x y H Q => ∃ a b oa ob, x = .ref a ∧ y = .ref b ∧ H a = some oa ∧ isObj oa = true ∧ H b = some ob ∧ isObj ob = true ∧ Q (.bl (!decide (a = b))) H) := by
  intro pins s σ H x y v u Q I rx ry h
  obtain ⟨a, b, oa, ob, rfl, rfl, ha, pa, hb, pb, q⟩ := h
  cases rx
  cases ry
  obtain ⟨o1, e1, n1⟩ := obj_there I ha pa
  obtain ⟨o2, e2, _⟩ := obj_there I hb pb
  by_cases z : a = b
  · subst z
    exact wpAny_isNot_ref_self (fin_bl I q (by simp))
  · exact wpAny_isNot_ref_other z e1 e2 n1 (fin_bl I q (by simp [z]))

/-- two rules for one operation: by cases -/
theorem OpR.or {f : Value → Value → Sem Value} {r r' : R2} (h : OpR X f r) (h' : OpR X f r') : OpR X f (fun x y H Q => r x y H Q ∨ r' x y H Q) := by
  intro pins s σ H x y v u Q I rx ry q
  rcases q with q | q
  · exact h pins s σ H x y v u Q I rx ry q
  · exact h' pins s σ H x y v u Q I rx ry q

theorem nomark (b : Expr) {op : CmpOp} (h : op ≠ .In := by decide) (h2 : op ≠ .NotIn := by decide) : behindInMarks op b = false := by
  have e1 : (op == CmpOp.In) = false := by cases op <;> first | rfl | exact absurd rfl h
  have e2 : (op == CmpOp.NotIn) = false := by cases op <;> first | rfl | exact absurd rfl h2
  cases b <;> simp [behindInMarks, e1, e2]
/-- a comparison as a value; hm: nomark b, or (for in, not in) by with_unfolding_all rfl -/
theorem pe_cmpR {op : CmpOp} {r : R2} (ho : OpR X (compareOp op) r) (ha : PE X a ta) (hb : PE X b tb) (hm : behindInMarks op b = false) : PE X (.Compare a [op] [b] pos) (tOp r ta tb) := by
  intro pins s σ H Q I h
  exact wpAny_Compare1 (binT ha hb I h fun v u s2 x y H2 I2 rx ry q => ho pins s2 σ H2 x y v u Q I2 rx ry q) hm
/-- a reading of a value as a test -/
def tTest (t : TE) : TT := fun σ H Q => t σ H fun x H' => ∃ k, x = .bl k ∧ Q k H'
theorem pt_cmpR {op : CmpOp} {r : R2} (ho : OpR X (compareOp op) r) (ha : PE X a ta) (hb : PE X b tb) (hm : behindInMarks op b = false) : PT X (.Compare a [op] [b] pos) (tTest (tOp r ta tb)) := by
  intro pins s σ H Q I h
  refine wpAny_isTrue_Compare1 (thn (ha pins s σ H _ I h) fun v s1 ⟨x, H1, I1, r1, q1⟩ => thn (hb pins s1 σ H1 _ I1 q1) fun u s2 ⟨y, H2, I2, r2, q2⟩ =>
    thn (ho pins s2 σ H2 x y v u _ I2 r1 r2 q2) fun c s3 ⟨z, H3, I3, r3, k, e, q3⟩ => ?_) hm
  subst e
  cases r3
  exact wpAny_truthy_bool ⟨H3, I3, q3⟩
/-- a op1 b op2 c -/
def tChain (r r' : R2) (ta tb tc : TE) : TE := fun σ H Q => ta σ H fun x H1 => tb σ H1 fun y H2 => r x y H2 fun z H3 => ∃ k, z = .bl k ∧
  (if k = true then tc σ H3 fun w' H4 => r' y w' H4 Q else Q (.bl false) H3)
theorem pe_chain {op op' : CmpOp} {r r' : R2} (ho : OpR X (compareOp op) r) (ho' : OpR X (compareOp op') r') (ha : PE X a ta) (hb : PE X b tb) (hc : PE X c tc)
    (hm : lastMarks [op, op'] [b, c] = false := by with_unfolding_all rfl) : PE X (.Compare a [op, op'] [b, c] pos) (tChain r r' ta tb tc) := by
  intro pins s σ H Q I h
  refine Compare_chain (thn (ha pins s σ H _ I h) fun v s1 ⟨x, H1, I1, r1, q1⟩ => chain_link (thn (hb pins s1 σ H1 _ I1 q1) fun u s2 ⟨y, H2, I2, r2, q2⟩ =>
    thn (ho pins s2 σ H2 x y v u _ I2 r1 r2 q2) fun d s3 ⟨z, H3, I3, r3, k, e, q3⟩ => ?_)) hm
  subst e
  cases r3
  refine wpAny_truthy_bool ?_
  cases k with
  | false => exact ite_ff ⟨.bl false, H3, I3, rfl, q3⟩
  | true => exact ite_tt (chain_last (thn (hc pins s3 σ H3 _ I3 q3) fun w' s4 ⟨z', H4, I4, r4, q4⟩ => ho' pins s4 σ H4 y z' u w' Q I4 r2 r4 q4))
theorem pt_chain {op op' : CmpOp} {r r' : R2} (ho : OpR X (compareOp op) r) (ho' : OpR X (compareOp op') r') (ha : PE X a ta) (hb : PE X b tb) (hc : PE X c tc)
    (hm : lastMarks [op, op'] [b, c] = false := by with_unfolding_all rfl) : PT X (.Compare a [op, op'] [b, c] pos) (tTest (tChain r r' ta tb tc)) := by
  intro pins s σ H Q I h
  refine isTrue_chain (thn (ha pins s σ H _ I h) fun v s1 ⟨x, H1, I1, r1, q1⟩ => test_link (thn (hb pins s1 σ H1 _ I1 q1) fun u s2 ⟨y, H2, I2, r2, q2⟩ =>
    thn (ho pins s2 σ H2 x y v u _ I2 r1 r2 q2) fun d s3 ⟨z, H3, I3, r3, k, e, q3⟩ => ?_)) hm
  subst e
  cases r3
  refine wpAny_truthy_bool ?_
  cases k with
  | false =>
    obtain ⟨k', e', q'⟩ := q3
    cases e'
    exact ite_ff ⟨H3, I3, q'⟩
  | true =>
    refine ite_tt (test_last (thn (hc pins s3 σ H3 _ I3 q3) fun w' s4 ⟨z', H4, I4, r4, q4⟩ => thn (ho' pins s4 σ H4 y z' u w' _ I4 r2 r4 q4) fun d' s5 ⟨z2, H5, I5, r5, k2, e2, q5⟩ => ?_))
    subst e2
    cases r5
    exact wpAny_truthy_bool ⟨H5, I5, q5⟩

/-! ### truth -/
/-- a value's truth by the abstract heap -/
def TruV (K : PySem.W.Frag) (x : V) (H : Hp) (k : Bool) : Prop :=
  match x with
  | .non => k = false
  | .bl b => k = b
  | .int i => k = (i != 0)
  | .str y => y.length ≤ sizeLine ∧ k = ((y.length : Int) != 0)
  | .byt y => y.size ≤ sizeLine ∧ k = ((y.size : Int) != 0)
  | .ref p => (∃ xs, SqL K H p xs ∧ k = !xs.isEmpty) ∨ (∃ xs, SqT K H p xs ∧ k = !xs.isEmpty) ∨ ∃ kvs, H p = some (.dK kvs) ∧ k = !kvs.isEmpty
  | _ => False
theorem isEmpty_kv {κ : Type} {kvs : List (κ × V)} {vs : List (κ × Value)} (r : KV kvs vs) : (!vs.isEmpty) = !kvs.isEmpty := by
  cases r <;> rfl
theorem isEmpty_of {xs : List V} {its : List Value} (r : Vals xs its) : (!its.toArray.isEmpty) = !xs.isEmpty := by
  cases r <;> simp
theorem line63 : (sizeLine : Nat) < 2 ^ 63 := by rw [sizeLine_eq]; decide
theorem tru_ok : TruR X (fun x H Q => ∃ k, TruV X.K x H k ∧ Q k H) := by
  intro pins s σ H x v Q I rx h
  obtain ⟨k, e, q⟩ := h
  have hl := line63
  have hs : sizeLine = 16777216 := sizeLine_eq
  cases x with
  | non =>
    cases rx
    have e' : k = false := e
    subst e'
    exact truthy_none ⟨H, I, q⟩
  | bl b =>
    cases rx
    have e' : k = b := e
    subst e'
    exact wpAny_truthy_bool ⟨H, I, q⟩
  | int i =>
    obtain ⟨t, rfl⟩ := rx
    have e' : k = (i != 0) := e
    subst e'
    exact PySem.P.truthy_int ⟨H, I, q⟩
  | str y =>
    obtain ⟨t, rfl⟩ := rx
    obtain ⟨hy, e'⟩ : y.length ≤ sizeLine ∧ k = ((y.length : Int) != 0) := e
    subst e'
    exact PySem.P.truthy_str (by omega) ⟨H, I.tok _, q⟩
  | byt y =>
    obtain ⟨t, rfl⟩ := rx
    obtain ⟨hy, e'⟩ : y.size ≤ sizeLine ∧ k = ((y.size : Int) != 0) := e
    subst e'
    exact PySem.W.truthy_bytes (by omega) ⟨H, I.tok _, q⟩
  | ref p =>
    cases rx
    have e' : (∃ xs, SqL X.K H p xs ∧ k = !xs.isEmpty) ∨ (∃ xs, SqT X.K H p xs ∧ k = !xs.isEmpty) ∨ ∃ kvs, H p = some (.dK kvs) ∧ k = !kvs.isEmpty := e
    rcases e' with ⟨xs, hx, e'⟩ | ⟨xs, hx, e'⟩ | ⟨kvs, hx, e'⟩
    · subst e'
      obtain ⟨its, r, pl, hz⟩ := I.list hx
      have hlen := r.length
      exact wpAny_truthy_list pl.isList (by simp only [List.size_toArray]; omega) ⟨H, I.tok _, by rw [isEmpty_of r]; exact q⟩
    · subst e'
      obtain ⟨its, r, pl, hz⟩ := I.tuple hx
      have hlen := r.length
      exact truthy_tuple pl (by simp only [List.size_toArray]; omega) ⟨H, I.tok _, by rw [isEmpty_of r]; exact q⟩
    · subst e'
      obtain ⟨hz, hS, vs, r, m⟩ : kvs.length ≤ sizeLine ∧ (p == sysModules) = false ∧ ∃ vs, KV kvs vs ∧ s.heap.DictOf (mixKind X.prog X.w) p vs := I.hok p _ hx
      have hlen : kvs.length = vs.length := Paired.length r
      exact wpAny_truthy_dict hS m (by omega) ⟨H, I.tok _, by rw [isEmpty_kv r]; exact q⟩
  | _ => exact (show False from e).elim
/-- any expression whose test is its value's truth (a name, a call, a subscript, a field ..: he by fun _ => rfl) -/
theorem pt_truth (ha : PE X a ta) (he : ∀ whole, isTrue a X.env whole = (do let v ← whole; standAt a.pos; holding [v] (truthy v))) :
    PT X a (fun σ H Q => ta σ H fun x H' => ∃ k, TruV X.K x H' k ∧ Q k H') := by
  intro pins s σ H Q I h
  exact isTrue_plain (thn (ha pins s σ H _ I h) fun v s1 ⟨x, H1, I1, r1, q1⟩ => tru_ok pins s1 σ H1 x v Q I1 r1 q1) (he _)

/-! ### strs and bytes -/
theorem pe_byt {x : List UInt8} {k : Nat} : PE X (.Constant (.bytes x) k pos) (fun _ H Q => Q (.byt x.toArray) H) := fun _ _ _ H _ I h => PySem.W.Constant_bytes ⟨.byt x.toArray, H, I.tok _, ⟨_, rfl⟩, h⟩
theorem op_add_str : OpR X (binaryOp .Add) (fun x y H Q => ∃ i j, x = .str i ∧ y = .str j ∧ i.length + j.length ≤ sizeLine ∧ Q (.str (i ++ j)) H) := by
  intro pins s σ H x y v u Q I rx ry h
  obtain ⟨i, j, rfl, rfl, hz, q⟩ := h
  obtain ⟨t, rfl⟩ := rx
  obtain ⟨t', rfl⟩ := ry
  exact add_str (fun t' tk => ⟨.str (i ++ j), H, I.tok _, ⟨_, rfl⟩, q⟩) hz
theorem iop_add_str : OpR X (inplaceOp .Add) (fun x y H Q => ∃ i j, x = .str i ∧ y = .str j ∧ i.length + j.length ≤ sizeLine ∧ Q (.str (i ++ j)) H) := by
  intro pins s σ H x y v u Q I rx ry h
  obtain ⟨i, j, rfl, rfl, hz, q⟩ := h
  obtain ⟨t, rfl⟩ := rx
  obtain ⟨t', rfl⟩ := ry
  exact iadd_str (fun t' tk => ⟨.str (i ++ j), H, I.tok _, ⟨_, rfl⟩, q⟩) hz
theorem op_add_byt : OpR X (binaryOp .Add) (fun x y H Q => ∃ i j, x = .byt i ∧ y = .byt j ∧ i.size + j.size ≤ 16777216 ∧ Q (.byt (i ++ j)) H) := by
  intro pins s σ H x y v u Q I rx ry h
  obtain ⟨i, j, rfl, rfl, hz, q⟩ := h
  obtain ⟨t, rfl⟩ := rx
  obtain ⟨t', rfl⟩ := ry
  exact PySem.W.KBy.add_bytes hz (fun t' tk => ⟨.byt (i ++ j), H, I.tok _, ⟨_, rfl⟩, q⟩)

def PlainIxT (b : Expr) : Prop := ∀ o i, subscripted b false o i = operate [o, i] (getItem o i)
/-- s[i], 0 ≤ i < len -/
theorem pe_item_str (ha : PE X a ta) (hb : PE X b tb) (hs : PlainIxT b) :
    PE X (.Subscript a b pos) (tOp (fun x y H Q => ∃ z i c, x = .str z ∧ y = .int i ∧ 0 ≤ i ∧ i < 2 ^ 63 ∧ i < z.length ∧ z.cps[i.toNat]? = some c ∧ Q (.str ⟨#[c]⟩) H) ta tb) := by
  intro pins s σ H Q I h
  refine Subscript_ (binT ha hb I h fun v u s2 x y H2 I2 rx ry q => ?_)
  obtain ⟨z, i, c, rfl, rfl, h0, h63, h1, hc, q⟩ := q
  obtain ⟨t, rfl⟩ := rx
  obtain ⟨t', rfl⟩ := ry
  have e : seqIndex? i z.length = some i.toNat := PySem.StrLaws.seqIndex_nonneg h0 h1
  exact tail_any (typeIs_str s2 z t) slot_str_getitem.lookup (getItem_str (c := c) (by
    have e1 : decide (i < -(2 ^ 63 : Int)) = false := decide_eq_false (by omega)
    have e2 : decide (i ≥ 2 ^ 63) = false := decide_eq_false (by omega)
    rw [e1, e2] <;> rfl) (by rw [e]; exact hc) ⟨.str ⟨#[c]⟩, H2, I2.tok _, ⟨_, rfl⟩, q⟩) (hs _ _)
/-- b[i], 0 ≤ i < len -/
theorem pe_item_byt (ha : PE X a ta) (hb : PE X b tb) (hs : PlainIxT b) :
    PE X (.Subscript a b pos) (tOp (fun x y H Q => ∃ (z : List UInt8) (i : Int), x = .byt z.toArray ∧ y = .int i ∧ z.length ≤ sizeLine ∧ 0 ≤ i ∧ i < z.length ∧ Q (.int ((z.getD i.toNat 0).toNat : Nat)) H) ta tb) := by
  intro pins s σ H Q I h
  refine Subscript_ (binT ha hb I h fun v u s2 x y H2 I2 rx ry q => ?_)
  obtain ⟨z, i, rfl, rfl, hz, h0, h1, q⟩ := q
  obtain ⟨t, rfl⟩ := rx
  obtain ⟨t', rfl⟩ := ry
  have hl : sizeLine = 16777216 := sizeLine_eq
  exact tail_any (PySem.W.typeIs_bytes s2 z.toArray t) PySem.W.FB.slot_bytes_getitem.lookup (PySem.W.getItem_bytes (by omega) h0 h1 ⟨.int ((z.getD i.toNat 0).toNat : Nat), H2, I2.tok _, ⟨_, rfl⟩, q⟩) (hs _ _)

/-! ### scalar builtins, by CallR -/
theorem vals1 {x : V} {us : List Value} (r : Vals [x] us) : ∃ u, us = [u] ∧ RelV x u := by
  cases r with
  | cons r1 r2 => cases r2; exact ⟨_, rfl, r1⟩
theorem vals2 {x y : V} {us : List Value} (r : Vals [x, y] us) : ∃ u w', us = [u, w'] ∧ RelV x u ∧ RelV y w' := by
  cases r with
  | cons r1 r2 =>
    cases r2 with
    | cons r3 r4 => cases r4; exact ⟨_, _, rfl, r1, r3⟩
theorem call_abs : CallR X (.builtin "abs") (fun xs H Q => ∃ i, xs = [.int i] ∧ Q (.int (if i < 0 then -i else i)) H) := by
  intro pins s σ H xs us Q I r h
  obtain ⟨i, rfl, q⟩ := h
  obtain ⟨u, rfl, t, rfl⟩ := vals1 r
  exact call_abs_int fun u tk => ⟨.int (if i < 0 then -i else i), H, I.tok _, ⟨_, rfl⟩, q⟩
theorem call_max2 (hc : X.calm = true) : CallR X (.builtin "max") (fun xs H Q => ∃ i j, xs = [.int i, .int j] ∧ Q (.int (if j > i then j else i)) H) := by
  intro pins s σ H xs us Q I r h
  obtain ⟨i, j, rfl, q⟩ := h
  obtain ⟨u, w', rfl, ⟨t, rfl⟩, ⟨t', rfl⟩⟩ := vals2 r
  refine max_two_ints (I.ok.hd hc) fun h' tk k => ⟨_, H, I.kept k, ?_, q⟩
  by_cases hj : j > i
  · rw [if_pos hj, if_pos hj]; exact ⟨_, rfl⟩
  · rw [if_neg hj, if_neg hj]; exact ⟨_, rfl⟩
theorem call_min2 (hc : X.calm = true) : CallR X (.builtin "min") (fun xs H Q => ∃ i j, xs = [.int i, .int j] ∧ Q (.int (if j < i then j else i)) H) := by
  intro pins s σ H xs us Q I r h
  obtain ⟨i, j, rfl, q⟩ := h
  obtain ⟨u, w', rfl, ⟨t, rfl⟩, ⟨t', rfl⟩⟩ := vals2 r
  refine min_two_ints (I.ok.hd hc) fun h' tk k => ⟨_, H, I.kept k, ?_, q⟩
  by_cases hj : j < i
  · rw [if_pos hj, if_pos hj]; exact ⟨_, rfl⟩
  · rw [if_neg hj, if_neg hj]; exact ⟨_, rfl⟩
theorem call_int1 : CallR X (.type "int") (fun xs H Q => (∃ i, xs = [.int i] ∧ Q (.int i) H) ∨ ∃ k, xs = [.bl k] ∧ Q (.int (if k then 1 else 0)) H) := by
  intro pins s σ H xs us Q I r h
  rcases h with ⟨i, rfl, q⟩ | ⟨k, rfl, q⟩
  · obtain ⟨u, rfl, t, rfl⟩ := vals1 r
    exact call_int_int ⟨.int i, H, I, ⟨_, rfl⟩, q⟩
  · obtain ⟨u, rfl, r1⟩ := vals1 r
    cases r1
    exact call_int_bool ⟨.int (if k then 1 else 0), H, I.tok _, ⟨_, rfl⟩, q⟩
theorem call_bool1 : CallR X (.type "bool") (fun xs H Q => (∃ i, xs = [.int i] ∧ Q (.bl (i != 0)) H) ∨ ∃ k, xs = [.bl k] ∧ Q (.bl k) H) := by
  intro pins s σ H xs us Q I r h
  rcases h with ⟨i, rfl, q⟩ | ⟨k, rfl, q⟩
  · obtain ⟨u, rfl, t, rfl⟩ := vals1 r
    exact call_bool_int ⟨.bl (i != 0), H, I, rfl, q⟩
  · obtain ⟨u, rfl, r1⟩ := vals1 r
    cases r1
    exact call_bool_bool ⟨.bl k, H, I, rfl, q⟩
theorem call_str_int : CallR X (.type "str") (fun xs H Q => ∃ i, xs = [.int i] ∧ i.natAbs.log2 < 1920 ∧ Q (.str (toString i)) H) := by
  intro pins s σ H xs us Q I r h
  obtain ⟨i, rfl, hz, q⟩ := h
  obtain ⟨u, rfl, t, rfl⟩ := vals1 r
  exact PySem.P.str_of_int hz ⟨.str _, H, I.tok _, ⟨_, rfl⟩, q⟩
theorem call_ord : CallR X (.builtin "ord") (fun xs H Q => ∃ x, xs = [.str x] ∧ x.length = 1 ∧ Q (.int (x.cps.getD 0 0 : Nat)) H) := by
  intro pins s σ H xs us Q I r h
  obtain ⟨x, rfl, hz, q⟩ := h
  obtain ⟨u, rfl, t, rfl⟩ := vals1 r
  exact ord_of_one hz ⟨.int _, H, I.tok _, ⟨_, rfl⟩, q⟩
theorem call_chr : CallR X (.builtin "chr") (fun xs H Q => ∃ i, xs = [.int i] ∧ 0 ≤ i ∧ i ≤ 1114111 ∧ Q (.str ⟨#[i.toNat]⟩) H) := by
  intro pins s σ H xs us Q I r h
  obtain ⟨i, rfl, h0, h1, q⟩ := h
  obtain ⟨u, rfl, t, rfl⟩ := vals1 r
  exact chr_of_range h0 h1 ⟨.str _, H, I.tok _, ⟨_, rfl⟩, q⟩
/-- len of a str, a bytes, a list, a tuple -/
def LenV (K : PySem.W.Frag) (x : V) (H : Hp) (n : Nat) : Prop :=
  match x with
  | .str y => y.length ≤ sizeLine ∧ n = y.length
  | .byt y => y.size ≤ sizeLine ∧ n = y.size
  | .ref p => (∃ xs, SqL K H p xs ∧ n = xs.length) ∨ ∃ xs, SqT K H p xs ∧ n = xs.length
  | _ => False
theorem call_len : CallR X (.builtin "len") (fun xs H Q => ∃ x n, xs = [x] ∧ LenV X.K x H n ∧ Q (.int n) H) := by
  intro pins s σ H xs us Q I r h
  obtain ⟨x, n, rfl, e, q⟩ := h
  obtain ⟨u, rfl, rx⟩ := vals1 r
  have hl := line63
  have hs : sizeLine = 16777216 := sizeLine_eq
  cases x with
  | str y =>
    obtain ⟨t, rfl⟩ := rx
    obtain ⟨hy, e'⟩ : y.length ≤ sizeLine ∧ n = y.length := e
    subst e'
    exact len_str (by omega) ⟨.int _, H, I.tok _, ⟨_, rfl⟩, q⟩
  | byt y =>
    obtain ⟨t, rfl⟩ := rx
    obtain ⟨hy, e'⟩ : y.size ≤ sizeLine ∧ n = y.size := e
    subst e'
    exact PySem.W.len_bytes (by omega) ⟨.int _, H, I.tok _, ⟨_, rfl⟩, q⟩
  | ref p =>
    cases rx
    have e' : (∃ xs, SqL X.K H p xs ∧ n = xs.length) ∨ ∃ xs, SqT X.K H p xs ∧ n = xs.length := e
    rcases e' with ⟨xs, hx, e'⟩ | ⟨xs, hx, e'⟩
    · subst e'
      obtain ⟨its, r', pl, hz⟩ := I.list hx
      have hlen := r'.length
      exact Calls.call_len_list pl.isList (by simp only [List.size_toArray]; omega) ⟨.int xs.length, H, I.tok _, ⟨_, by simp only [List.size_toArray]; rw [hlen]⟩, q⟩
    · subst e'
      obtain ⟨its, r', pl, hz⟩ := I.tuple hx
      have hlen := r'.length
      exact len_tuple pl (by simp only [List.size_toArray]; omega) ⟨.int xs.length, H, I.tok _, ⟨_, by simp only [List.size_toArray]; rw [hlen]⟩, q⟩
  | _ => exact (show False from e).elim
/-- divmod: a new tuple -/
theorem call_divmod : CallR X (.builtin "divmod") (fun xs H Q => ∃ i j, xs = [.int i, .int j] ∧ CDiv i j ∧ ∀ p, H p = none → Q (.ref p) (upd H p (.tup [.int (i / j), .int (i % j)]))) := by
  intro pins s σ H xs us Q I r h
  obtain ⟨i, j, rfl, ⟨h1, h2⟩, q⟩ := h
  obtain ⟨u, w', rfl, ⟨t, rfl⟩, ⟨t', rfl⟩⟩ := vals2 r
  refine divmod_int (by omega) ?_ (.inl (PyProof.noPylong_small (by omega)))
  rw [Int.fdiv_eq_ediv_of_nonneg i (by omega), Int.fmod_eq_emod_of_nonneg i (by omega)]
  have hn : H s.heap.objs.size = none := I.hok.fresh (Nat.le_refl _)
  refine ⟨.ref s.heap.objs.size, _, ?_, rfl, q _ hn⟩
  refine I.laid (fun b o e => Heap.get?_push_of_some _ e) (Nat.le_refl _) ⟨by simp only [List.length_cons, List.length_nil]; rw [sizeLine_eq]; decide, [.int (i / j) s.toks, .int (i % j) (s.toks + 1)], .cons ⟨_, rfl⟩ (.cons ⟨_, rfl⟩ .nil), ?_⟩
  exact ⟨_, Heap.get?_push_size s.heap rfl, rfl, 0, rfl⟩
end
end L2

namespace L2
open PySem PySem.Spec PyProof.Rows

/-! ### an instance, its attributes a map -/
structure ObjM (h : Heap) (x dx C : Addr) (mA : Str → Option Value) : Prop where
  obj : h.get? x = some (PySem.W.instObj C dx)
  ns : h.Ns1 dx mA
  ne : dx ≠ x

theorem lookIn_ns {h : Heap} {dx : Addr} {mA : Str → Option Value} (n : h.Ns1 dx mA) : ∃ od, h.get? dx = some od ∧ ∀ name, PySem.W.lookIn name od = some (mA name) := by
  obtain ⟨o, es, ep, ho, hd, hk, _, hm⟩ := n
  refine ⟨o, ho, fun name => ?_⟩
  have e := hm name
  unfold nsFind findBy at e
  rw [← Array.find?_toList] at e
  unfold PySem.W.lookIn
  rw [hd]
  dsimp only
  split
  · rename_i y q
    rw [q] at e
    exact congrArg some e
  · rename_i q
    rw [q] at e
    have a : es.toList.any (·.refKey) = false := by
      rw [List.any_eq_false]
      intro y hy
      obtain ⟨z, t, hkey⟩ := hk y (Array.mem_toList_iff.mp hy)
      simp [DictEntry.refKey, hkey]
    have a' : ¬ es.toList.any (·.refKey) = true := by rw [a]; exact Bool.false_ne_true
    rw [if_neg a']
    exact congrArg some e

theorem ObjM.look {h : Heap} {x dx C : Addr} {mA : Str → Option Value} (I : ObjM h x dx C mA) : ∃ od, PySem.W.InstAt h x (PySem.W.instObj C dx) C (some od) ∧ ∀ name, PySem.W.lookIn name od = some (mA name) :=
  let ⟨od, ho, hl⟩ := lookIn_ns I.ns
  ⟨od, ⟨I.obj, rfl, rfl, ho⟩, hl⟩

section
variable {prog : Program} {w : World} {A : Around} {E : Value → Shared → Prop} {s : Shared} {K : PySem.W.Frag} {x dx C f : Addr} {mA : Str → Option Value} {name : Str} {v : Value}

theorem get_map {expr : Bool} {Q : Value → Shared → Prop} (X : K.In s.heap) (I : ObjM s.heap x dx C mA) (hg : PySem.W.plainGet K C name = true) (hh : PySem.W.hasDictIn K C = true)
    (ha : PySem.W.findIn K (.ref C) name = some none) (hv : mA name = some v) (hv' : PySem.W.handedIn v = true) (h : Q v { s with toks := s.toks + 1 }) :
    wpAny (model prog w) A (getAttr (.ref x) name expr) Q E s := by
  obtain ⟨od, J, hl⟩ := I.look
  exact PySem.W.get_value X J (PySem.W.plainGet_of hg).1 (PySem.W.findObj_own hh ha rfl (by rw [hl, hv])) hv' h

theorem get_const {expr : Bool} {a : Value} {Q : Value → Shared → Prop} (X : K.In s.heap) (I : ObjM s.heap x dx C mA) (hg : PySem.W.plainGet K C name = true) (hh : PySem.W.hasDictIn K C = true)
    (ha : PySem.W.findIn K (.ref C) name = some (some a)) (hn : PySem.W.specialIn K a "__get__" = some none) (hc : PySem.W.copiedNames.contains name = false) (hv : mA name = none) (hv' : PySem.W.handedIn a = true)
    (h : Q a { s with toks := s.toks + 1 }) : wpAny (model prog w) A (getAttr (.ref x) name expr) Q E s := by
  obtain ⟨od, J, hl⟩ := I.look
  exact PySem.W.get_value X J (PySem.W.plainGet_of hg).1 (PySem.W.findObj_cls hh ha hn hv' hc (by rw [hl, hv])) hv' h

theorem get_meth {pl : Sem Bool} {Q : Value × List Value → Shared → Prop} (X : K.In s.heap) (I : ObjM s.heap x dx C mA) (hg : PySem.W.plainGet K C name = true)
    (hf : PySem.W.findIn K (.ref C) name = some (some (.ref f))) (ht : PySem.W.isFn K (.ref f) = true) (hv : mA name = none) (h : Q (.ref f, [.ref x]) s) :
    wpAny (model prog w) A (getMethod (.ref x) name pl) Q E s := by
  obtain ⟨od, J, hl⟩ := I.look
  exact PySem.W.method_fn X J (PySem.W.plainGet_of hg).1 (PySem.W.plainGet_of hg).2 hf (beq_iff_eq.mp ht) (by show (PySem.W.lookIn name od).map (·.isSome) = some false; rw [hl, hv]; rfl) h

theorem set_map {ns : List Str} {Q : Unit → Shared → Prop} (X : K.In s.heap) (I : ObjM s.heap x dx C mA)
    (hs : PySem.W.findIn K (.ref C) "__setattr__" = some (some (.builtin "object.__setattr__"))) (hp : PySem.W.plainOver K C = true) (ht : PySem.W.takerIn K C name = some none) (hh : PySem.W.hasDictIn K C = true)
    (hw : PySem.Within mA ns) (hsz : ns.length ≤ sizeLine)
    (h : ∀ h', ObjM h' x dx C (fun y => if y = name then some v else mA y) → Heap.SameBut dx s.heap h' → Q () { s with heap := h', toks := s.toks + 2 }) :
    wpAny (model prog w) A (setAttr (.ref x) name v) Q E s := by
  obtain ⟨od, J, hl⟩ := I.look
  refine PySem.W.set_plain X J hs (PySem.W.osa_open (s := { s with toks := s.toks + 1 }) (r := none) X J hp ht fun b => ?_)
  obtain ⟨cd, hc, hd'⟩ := PySem.W.any_some hh
  have hx : s.heap.get? x = some ⟨.ref C, some dx, .plain, #[]⟩ := I.obj
  refine wpAny_bind (wpAny_pure (wpAny_bind (wpAny_bind (wpAny_loadPart hx (wpAny_bind (PySem.W.Looks.here (s := { s with toks := s.toks + 1 }) (PySem.W.looks_clsIn X hc) ?_))))))
  rw [hd']
  refine wpAny_pure (a := some dx) (wpAny_bind (wpAny_pure (wpAny_bind ?_)))
  refine wpAny_nsSet1 (s := { s with toks := s.toks + 1 }) I.ns fun h' hn2 hs2 => ?_
  obtain ⟨oD, esD, epD, hoD, hdD, hcD⟩ := hn2.count (PySem.Within.cons name v hw)
  refine wpAny_bind (wpAny_lookBehind hoD (by rw [hdD]; exact pastItsLine_dict (Nat.le_trans hcD (by rw [List.length_cons]; omega))) ?_)
  exact wpAny_pure (h _ ⟨(hs2.2 _ (Ne.symm I.ne)).trans I.obj, hn2, I.ne⟩ hs2)

/-- C(..): the dict at the heap's end, the instance behind it; then its __init__ -/
theorem make_map {R : Result → Shared → Prop} {vs : List Value} {kw : List (Str × Value)} (X : K.In s.heap) (hm : PySem.W.makesIn K C = true)
    (hi : PySem.W.findIn K (.ref C) "__init__" = some (some (.ref f))) (hf : PySem.W.typeIn K (.ref f) = some (.type "function"))
    (h : codeAny (model prog w) (A.under (.builtin "type.__call__" ⟨.ref C :: vs, kw⟩)) (.call (.ref f) ⟨.ref (s.heap.objs.size + 1) :: vs, kw⟩) (PySem.W.InitBack (s.heap.objs.size + 1) R)
      { s with heap := (s.heap.push PySem.W.emptyDict).push (PySem.W.instObj C s.heap.objs.size) }) :
    codeAny (model prog w) A (.call (.ref C) ⟨vs, kw⟩) R s := by
  obtain ⟨hh, g, d, t, os⟩ := s
  exact PySem.W.make_core (PySem.W.makes_of X hm) (PySem.W.looks_findIn X hi) (fun self => PySem.W.bind_fn X self hf) (.inl rfl) h
/-- C() where there is no __init__ but object's -/
theorem make_map0 {R : Result → Shared → Prop} (X : K.In s.heap) (hm : PySem.W.makesIn K C = true)
    (hi : PySem.W.findIn K (.ref C) "__init__" = some (some (.builtin "object.__init__")))
    (hb : ∀ self, PySem.W.Looks (model prog w) s.heap (bindSpecial (.builtin "object.__init__") self) (.builtin "object.__init__", [self]))
    (h : codeAny (model prog w) (A.under (.builtin "type.__call__" ⟨[.ref C], []⟩)) (.call (.builtin "object.__init__") ⟨[.ref (s.heap.objs.size + 1)], []⟩) (PySem.W.InitBack (s.heap.objs.size + 1) R)
      { s with heap := (s.heap.push PySem.W.emptyDict).push (PySem.W.instObj C s.heap.objs.size) }) :
    codeAny (model prog w) A (.call (.ref C) ⟨[], []⟩) R s := by
  obtain ⟨hh, g, d, t, os⟩ := s
  exact PySem.W.make_core (PySem.W.makes_of X hm) (PySem.W.looks_findIn X hi) hb (.inr ⟨rfl, rfl⟩) h
end

/-! ### the attributes as a list of pairs -/
def putF (f : Str) (v : V) : List (Str × V) → List (Str × V)
  | [] => [(f, v)]
  | (g, x) :: r => if g = f then (g, v) :: r else (g, x) :: putF f v r
theorem lookup_putF (f g : Str) (v : V) : ∀ fs : List (Str × V), (putF f v fs).lookup g = if g = f then some v else fs.lookup g
  | [] => by
    show List.lookup g [(f, v)] = _
    by_cases h : g = f
    · have hb : (g == f) = true := beq_iff_eq.mpr h
      simp only [List.lookup, hb, if_pos h]
    · have hb : (g == f) = false := beq_eq_false_iff_ne.mpr h
      simp only [List.lookup, hb, if_neg h]
  | (k, x) :: r => by
    have ih := lookup_putF f g v r
    rw [show putF f v ((k, x) :: r) = (if k = f then (k, v) :: r else (k, x) :: putF f v r) from rfl]
    by_cases hk : k = f
    · rw [if_pos hk]
      by_cases h : g = k
      · have hb : (g == k) = true := beq_iff_eq.mpr h
        simp only [List.lookup, hb, if_pos (h.trans hk)]
      · have hb : (g == k) = false := beq_eq_false_iff_ne.mpr h
        simp only [List.lookup, hb, if_neg (fun e : g = f => h (e.trans hk.symm))]
    · rw [if_neg hk]
      by_cases h : g = k
      · have hb : (g == k) = true := beq_iff_eq.mpr h
        simp only [List.lookup, hb, if_neg (fun e : g = f => hk (h.symm.trans e))]
      · have hb : (g == k) = false := beq_eq_false_iff_ne.mpr h
        simp only [List.lookup, hb]
        exact ih
theorem keys_putF (f : Str) (v : V) : ∀ fs : List (Str × V), f ∈ (putF f v fs).map (·.1) ∧ ∀ g, g ∈ fs.map (·.1) → g ∈ (putF f v fs).map (·.1)
  | [] => ⟨by simp [putF], fun g h => by simp at h⟩
  | (k, x) :: r => by
    obtain ⟨i1, i2⟩ := keys_putF f v r
    rw [show putF f v ((k, x) :: r) = (if k = f then (k, v) :: r else (k, x) :: putF f v r) from rfl]
    by_cases hk : k = f
    · rw [if_pos hk]
      subst hk
      exact ⟨by simp, fun g h => by simpa using h⟩
    · rw [if_neg hk]
      refine ⟨?_, fun g h => ?_⟩
      · rw [List.map_cons]
        exact List.mem_cons_of_mem _ i1
      · rw [List.map_cons] at h ⊢
        rcases List.mem_cons.mp h with e | e
        · exact List.mem_cons.mpr (.inl e)
        · exact List.mem_cons_of_mem _ (i2 g e)
theorem length_putF (f : Str) (v : V) : ∀ fs : List (Str × V), (putF f v fs).length ≤ fs.length + 1
  | [] => by simp [putF]
  | (k, x) :: r => by
    have ih := length_putF f v r
    rw [show putF f v ((k, x) :: r) = (if k = f then (k, v) :: r else (k, x) :: putF f v r) from rfl]
    by_cases hk : k = f
    · rw [if_pos hk, List.length_cons, List.length_cons]; omega
    · rw [if_neg hk, List.length_cons, List.length_cons]; omega

theorem RelO.some_of {v : V} {o : Option Value} (r : RelO (some v) o) : ∃ u, o = some u ∧ RelV v u := by
  cases o with
  | none => exact (show False from r).elim
  | some u => exact ⟨u, rfl, r⟩
theorem RelO.none_of {o : Option Value} (r : RelO none o) : o = none := by
  cases o with
  | none => rfl
  | some u => exact (show False from r).elim
theorem handed_of {v : V} {u : Value} (r : RelV v u) : PySem.W.handedIn u = true := by
  cases v with
  | non => cases (show u = Value.none from r); rfl
  | bl b => cases (show u = Value.bool b from r); rfl
  | int i => obtain ⟨t, e⟩ := (show ∃ t, u = Value.int i t from r); cases e; rfl
  | str x => obtain ⟨t, e⟩ := (show ∃ t, u = Value.str x t from r); cases e; rfl
  | byt b => obtain ⟨t, e⟩ := (show ∃ t, u = Value.bytes b t from r); cases e; rfl
  | flt b => obtain ⟨t, e⟩ := (show ∃ t, u = Value.float b t from r); cases e; rfl
  | ref a => cases (show u = Value.ref a from r); rfl
  | ty n => cases (show u = Value.type n from r); rfl

section
variable {P : Program} {w : World} {H H' : Hp} {h h' : Heap} {a C dx : Addr} {fs fs' : List (Str × V)}
theorem ins_get (hok : HOk P w H h) (e : H a = some (.ins C dx fs)) : ∃ mA, ObjM h a dx C mA ∧ (∀ f, RelO (fs.lookup f) (mA f)) ∧ PySem.Within mA (fs.map (·.1)) ∧ fs.length ≤ 1000 ∧ H dx = some (.own a) := by
  obtain ⟨d, z, ne, ob, mA, n, r, q⟩ := (show ObjOk P w H h a (.ins C dx fs) from hok a _ e)
  exact ⟨mA, ⟨ob, n, ne⟩, r, q, z, d⟩
end

/-! ### what of the text a class must have -/
structure Cls (K : PySem.W.Frag) (C : Addr) : Prop where
  pg : PySem.W.plainGet K C Str.empty = true
  hd : PySem.W.hasDictIn K C = true
  po : PySem.W.plainOver K C = true
  sa : PySem.W.findIn K (.ref C) "__setattr__" = some (some (.builtin "object.__setattr__"))
theorem Cls.get {K : PySem.W.Frag} {C : Addr} (c : Cls K C) (f : Str) : PySem.W.plainGet K C f = true := c.pg
/-- no class of it has the name -/
def NoAttr (K : PySem.W.Frag) (C : Addr) (f : Str) : Prop := PySem.W.findIn K (.ref C) f = some none
theorem NoAttr.taker {K : PySem.W.Frag} {C : Addr} {f : Str} (n : NoAttr K C f) : PySem.W.takerIn K C f = some none := by
  unfold PySem.W.takerIn
  rw [show PySem.W.findIn K (.ref C) f = some none from n]
  rfl
/-- a constant of the class -/
structure Con (K : PySem.W.Frag) (C : Addr) (f : Str) (v : V) (u : Value) : Prop where
  at_ : PySem.W.findIn K (.ref C) f = some (some u)
  rel : RelV v u
  get : PySem.W.specialIn K u "__get__" = some none
  cp : PySem.W.copiedNames.contains f = false
/-- a method: a plain def of the class or of one above it -/
structure Meth (K : PySem.W.Frag) (C : Addr) (m : Str) (f : Addr) : Prop where
  at_ : PySem.W.findIn K (.ref C) m = some (some (.ref f))
  fn : PySem.W.isFn K (.ref f) = true
  kp : PySem.W.keepIn K (.ref f) = true

section
variable {X : Cx} {pins : List (Addr × Obj)} {σ : St} {H : Hp} {s : Shared} {a C dx : Addr} {fs : List (Str × V)} {f : Str} {v : V} {A : Around} {E : Value → Shared → Prop}

theorem getattr_ok {b : Bool} {Q : Value → Shared → Prop} (I : Inv X pins σ H s) (e : H a = some (.ins C dx fs)) (c : Cls X.K C) (n : NoAttr X.K C f) (l : fs.lookup f = some v)
    (h : ∀ u s', Inv X pins σ H s' → RelV v u → Q u s') : wpAny (model X.prog X.w) A (getAttr (.ref a) f b) Q E s := by
  obtain ⟨mA, O, r, _, _, _⟩ := ins_get I.hok e
  obtain ⟨u, hu, ru⟩ := RelO.some_of (v := v) (o := mA f) (by rw [← l]; exact r f)
  exact get_map I.kIn O (c.get f) c.hd n hu (handed_of ru) (h u _ (I.tok _) ru)

theorem getcon_ok {b : Bool} {u : Value} {Q : Value → Shared → Prop} (I : Inv X pins σ H s) (e : H a = some (.ins C dx fs)) (c : Cls X.K C) (k : Con X.K C f v u) (l : fs.lookup f = none)
    (h : ∀ s', Inv X pins σ H s' → Q u s') : wpAny (model X.prog X.w) A (getAttr (.ref a) f b) Q E s := by
  obtain ⟨mA, O, r, _, _, _⟩ := ins_get I.hok e
  have hn : mA f = none := RelO.none_of (by rw [← l]; exact r f)
  exact get_const I.kIn O (c.get f) c.hd k.at_ k.get k.cp hn (handed_of k.rel) (h _ (I.tok _))

theorem getmeth_ok {m : Str} {g : Addr} {pl : Sem Bool} {Q : Value × List Value → Shared → Prop} (I : Inv X pins σ H s) (e : H a = some (.ins C dx fs)) (c : Cls X.K C) (k : Meth X.K C m g) (l : fs.lookup m = none)
    (h : Q (.ref g, [.ref a]) s) : wpAny (model X.prog X.w) A (getMethod (.ref a) m pl) Q E s := by
  obtain ⟨mA, O, r, _, _, _⟩ := ins_get I.hok e
  have hn : mA m = none := RelO.none_of (by rw [← l]; exact r m)
  exact get_meth I.kIn O (c.get m) k.at_ k.fn hn h

theorem setattr_ok {y : V} {u : Value} {Q : Unit → Shared → Prop} (I : Inv X pins σ H s) (e : H a = some (.ins C dx fs)) (c : Cls X.K C) (n : NoAttr X.K C f) (hl : fs.length < 1000) (ry : RelV y u)
    (h : ∀ s', Inv X pins σ (upd H a (.ins C dx (putF f y fs))) s' → Q () s') : wpAny (model X.prog X.w) A (setAttr (.ref a) f u) Q E s := by
  obtain ⟨mA, O, r, wi, _, ho⟩ := ins_get I.hok e
  have hz : (fs.map (·.1)).length ≤ sizeLine := by rw [List.length_map, sizeLine_eq]; omega
  refine set_map I.kIn O c.sa c.po n.taker c.hd wi hz fun h' O' sb => h _ ?_
  have hd : ∃ o, h'.get? dx = some o := let ⟨o, _, _, e', _⟩ := O'.ns; ⟨o, e'⟩
  refine I.write (x := a) (e := dx) (by rw [e]; exact True.intro) (.inr ho) (fun b q hb z => (sb.2 b hb).trans z) hd ?_
  refine ⟨by rw [upd_ne O.ne]; exact ho, ?_, O.ne, O'.obj, _, O'.ns, fun g => ?_, fun g hg => ?_⟩
  · have := length_putF f y fs; omega
  · show RelO ((putF f y fs).lookup g) (if g = f then some u else mA g)
    rw [lookup_putF]
    by_cases q : g = f
    · rw [if_pos q, if_pos q]; exact ry
    · rw [if_neg q, if_neg q]; exact r g
  · by_cases q : g = f
    · rw [q]; exact (keys_putF f y fs).1
    · refine (keys_putF f y fs).2 g (wi g fun z => hg ?_)
      show (if g = f then some u else mA g) = none
      rw [if_neg q]; exact z

/-- a new instance, tracked, without attributes -/
theorem Inv.made (I : Inv X pins σ H s) : Inv X pins σ (upd (upd H s.heap.objs.size (.own (s.heap.objs.size + 1))) (s.heap.objs.size + 1) (.ins C s.heap.objs.size []))
    { s with heap := (s.heap.push PySem.W.emptyDict).push (PySem.W.instObj C s.heap.objs.size) } := by
  have e1 : (s.heap.push PySem.W.emptyDict).get? s.heap.objs.size = some PySem.W.emptyDict := Heap.get?_push_size s.heap rfl
  have e2 : ((s.heap.push PySem.W.emptyDict).push (PySem.W.instObj C s.heap.objs.size)).get? (s.heap.objs.size + 1) = some (PySem.W.instObj C s.heap.objs.size) := by
    have := Heap.get?_push_size (s.heap.push PySem.W.emptyDict) (o := PySem.W.instObj C s.heap.objs.size) rfl
    rwa [Heap.size_push] at this
  have e3 : (s.heap.push PySem.W.emptyDict).Ns s.heap.objs.size (fun _ => none) := ⟨PySem.W.emptyDict, #[], _, e1, rfl, (fun e he => absurd he (by simp)), fun _ => rfl⟩
  have I1 := I.laid (a := s.heap.objs.size) (o := .own (s.heap.objs.size + 1)) (h' := s.heap.push PySem.W.emptyDict) (t' := s.toks) (fun b u q => Heap.get?_push_of_some _ q) (Nat.le_refl _) ⟨_, e1⟩
  refine I1.laid (a := s.heap.objs.size + 1) (o := .ins C s.heap.objs.size []) (t' := s.toks) (fun b u q => Heap.get?_push_of_some _ q) (Nat.le_of_eq (Heap.size_push _ _)) ?_
  have ne : s.heap.objs.size ≠ s.heap.objs.size + 1 := Nat.ne_of_lt (Nat.lt_succ_self _)
  refine ⟨by rw [upd_ne ne, upd_same], Nat.zero_le _, ne, e2, fun _ => none, (Heap.Ns1.of_empty e3).at fun o q => Heap.get?_push_of_some _ q, fun _ => True.intro, fun y hy => absurd rfl hy⟩

/-- e.f where nothing but the object is asked: through attributeBase (super) and the last hold -/
theorem attr_of {prog : Program} {w : World} {env : Env} {e : Expr} {f : Str} {pos : Pos} {s : Shared} {Q : Value → Shared → Prop} (hb : attributeBase e f env (eval e env) = eval e env)
    (h : wpAny (model prog w) A (eval e env) (fun o s₁ => wpAny (model prog w) A (getAttr o f true) Q E s₁) E s) : wpAny (model prog w) A (eval (.Attribute e f pos) env) Q E s :=
  Attribute_any_ h (by rw [arm_eval_Attribute, hb])
end

/-! ### readings and rules -/
/-- e.f, an attribute of the instance -/
def tFld (K : PySem.W.Frag) (ta : TE) (f : Str) : TE := fun σ H Q => ta σ H fun x H1 => ∃ a C dx fs v, x = .ref a ∧ H1 a = some (.ins C dx fs) ∧ Cls K C ∧ NoAttr K C f ∧ fs.lookup f = some v ∧ Q v H1
/-- e.f, a constant of the class -/
def tCon (K : PySem.W.Frag) (ta : TE) (f : Str) : TE := fun σ H Q => ta σ H fun x H1 => ∃ a C dx fs v u, x = .ref a ∧ H1 a = some (.ins C dx fs) ∧ Cls K C ∧ Con K C f v u ∧ fs.lookup f = none ∧ Q v H1
/-- e.f = value -/
def sFld (K : PySem.W.Frag) (ta tv : TE) (f : Str) : TS := fun D σ H => tv σ H fun y H1 => ta σ H1 fun x H2 => ∃ a C dx fs, x = .ref a ∧ H2 a = some (.ins C dx fs) ∧ Cls K C ∧ NoAttr K C f ∧ fs.length < 1000 ∧
  D.nx σ (upd H2 a (.ins C dx (putF f y fs)))
/-- an augmented operator on two values -/
def InOp (X : Cx) (op : Operator) (rd : V → V → Hp → VK → Prop) : Prop :=
  ∀ (pins : List (Addr × Obj)) (s : Shared) (σ : St) (H : Hp) (x y : V) (u v : Value) (Q : VK), Inv X pins σ H s → RelV x u → RelV y v → rd x y H Q → wpAny (model X.prog X.w) X.A (inplaceOp op u v) (EP X pins σ Q) X.xe s
/-- e.f op= value -/
def sFldAug (K : PySem.W.Frag) (ta tv : TE) (rd : V → V → Hp → VK → Prop) (f : Str) : TS := fun D σ H => ta σ H fun x H1 => ∃ a C dx fs v, x = .ref a ∧ H1 a = some (.ins C dx fs) ∧ Cls K C ∧ NoAttr K C f ∧ fs.lookup f = some v ∧
  tv σ H1 fun y H2 => rd v y H2 fun z H3 => ∃ dx' fs', H3 a = some (.ins C dx' fs') ∧ fs'.length < 1000 ∧ D.nx σ (upd H3 a (.ins C dx' (putF f z fs')))

section
variable {X : Cx} {o e value : Expr} {f : Str} {pos pos' tpos : Pos} {ta tv : TE}
theorem pe_fld (he : PE X e ta) (hb : attributeBase e f X.env (eval e X.env) = eval e X.env) : PE X (.Attribute e f pos) (tFld X.K ta f) := by
  intro pins s σ H Q I h
  refine attr_of hb (thn (he pins s σ H _ I h) fun u s1 ⟨x, H1, I1, rx, a, C, dx, fs, v, ex, ea, c, n, l, q⟩ => ?_)
  subst ex
  obtain rfl : u = Value.ref a := rx
  exact getattr_ok I1 ea c n l fun u' s2 I2 ru => ⟨v, H1, I2, ru, q⟩
theorem pe_con (he : PE X e ta) (hb : attributeBase e f X.env (eval e X.env) = eval e X.env) : PE X (.Attribute e f pos) (tCon X.K ta f) := by
  intro pins s σ H Q I h
  refine attr_of hb (thn (he pins s σ H _ I h) fun u s1 ⟨x, H1, I1, rx, a, C, dx, fs, v, u0, ex, ea, c, k, l, q⟩ => ?_)
  subst ex
  obtain rfl : u = Value.ref a := rx
  exact getcon_ok I1 ea c k l fun s2 I2 => ⟨v, H1, I2, k.rel, q⟩
theorem ps_fld (ha : PE X o ta) (hv : PE X value tv) (hs : swapsWith value (some (.Attribute o f pos')) pos.line X.env = pure false) : PS X (.Assign [.Attribute o f pos'] value pos) (sFld X.K ta tv f) := by
  intro pins s σ H D I h
  refine plainObj_wpAny_Assign_Attribute (thn (hv pins s σ H _ I h) fun u s1 ⟨y, H1, I1, ry, q⟩ => thn (ha pins s1 σ H1 _ I1 q) fun ov s2 ⟨x, H2, I2, rx, a, C, dx, fs, ex, ea, c, n, l, q2⟩ => ?_) hs
  subst ex
  obtain rfl : ov = Value.ref a := rx
  exact setattr_ok I2 ea c n l ry fun s3 I3 => ⟨σ, _, I3, q2⟩
theorem ps_fldaug {op : Operator} {rd : V → V → Hp → VK → Prop} (ha : PE X o ta) (hv : PE X value tv) (hop : InOp X op rd) : PS X (.AugAssign (.Attribute o f tpos) op value pos) (sFldAug X.K ta tv rd f) := by
  intro pins s σ H D I h
  refine wpAny_AugAssign_AttributeAny (thn (ha pins s σ H _ I h) fun ov s1 ⟨x, H1, I1, rx, a, C, dx, fs, v, ex, ea, c, n, l, q⟩ => ?_)
  subst ex
  obtain rfl : ov = Value.ref a := rx
  refine getattr_ok I1 ea c n l fun u s2 I2 ru => thn (hv pins s2 σ H1 _ I2 q) fun w3 s3 ⟨y, H2, I3, ry, q3⟩ => thn (hop pins s3 σ H2 v y u w3 _ I3 ru ry q3) fun w4 s4 ⟨z, H3, I4, rz, dx', fs', ea', l', q4⟩ => ?_
  exact setattr_ok I4 ea' c n l' rz fun s5 I5 => ⟨σ, _, I5, q4⟩
def rAdd : V → V → Hp → VK → Prop := fun x y H Q => ∃ i j, x = .int i ∧ y = .int j ∧ Q (.int (i + j)) H
def rSub : V → V → Hp → VK → Prop := fun x y H Q => ∃ i j, x = .int i ∧ y = .int j ∧ Q (.int (i - j)) H
theorem in_add : InOp X .Add rAdd := by
  rintro pins s σ H x y u v Q I rx ry ⟨i, j, rfl, rfl, q⟩
  obtain ⟨t, rfl⟩ := (show ∃ t, u = Value.int i t from rx)
  obtain ⟨t', rfl⟩ := (show ∃ t', v = Value.int j t' from ry)
  exact PyProof.Rows.iadd_int ⟨.int (i + j), H, I.tok _, ⟨_, rfl⟩, q⟩
theorem in_sub : InOp X .Sub rSub := by
  rintro pins s σ H x y u v Q I rx ry ⟨i, j, rfl, rfl, q⟩
  obtain ⟨t, rfl⟩ := (show ∃ t, u = Value.int i t from rx)
  obtain ⟨t', rfl⟩ := (show ∃ t', v = Value.int j t' from ry)
  exact PyProof.Rows.isub_int ⟨.int (i - j), H, I.tok _, ⟨_, rfl⟩, q⟩

/-- what is between an instance and its method: the tree of a method call -/
theorem methcall_of {pl : Sem Bool} {m : Str} {apos : Pos} {args : List Expr} {pins : List (Addr × Obj)} {s : Shared} {σ : St} {H : Hp} {Q : Value → Shared → Prop} {te : TE} (he : PE X e te) (I : Inv X pins σ H s)
    (h : te σ H fun x H1 => ∃ a C dx fs g, x = .ref a ∧ H1 a = some (.ins C dx fs) ∧ Cls X.K C ∧ Meth X.K C m g ∧ fs.lookup m = none ∧
      ∀ s1, Inv X pins σ H1 s1 → wpAny (model X.prog X.w) X.A (callWith pos (.ref g) [.ref a] (backTo pos (starEach args X.env)) (backToKw pos (keywordEach [] X.env))) Q X.xe s1)
    (ht : eval (.Call (.Attribute e m apos) args [] pos) X.env = (do
      let ov ← eval e X.env
      standAt apos.atName
      let (f, first) ← holding [ov] (getMethod ov m pl)
      callWith pos f first (backTo pos (starEach args X.env)) (backToKw pos (keywordEach [] X.env)))) :
    wpAny (model X.prog X.w) X.A (eval (.Call (.Attribute e m apos) args [] pos) X.env) Q X.xe s := by
  refine PySem.W.methodCall_KW (pl := pl) (thn (he pins s σ H _ I h) fun u s1 ⟨x, H1, I1, rx, a, C, dx, fs, g, ex, ea, c, k, l, q⟩ => ?_) ht
  subst ex
  obtain rfl : u = Value.ref a := rx
  exact getmeth_ok I1 ea c k l (q s1 I1)
end

/-! ### isinstance -/
section
variable {X : Cx} {pins : List (Addr × Obj)} {σ : St} {H : Hp} {s : Shared} {A : Around} {E : Value → Shared → Prop} {Q : Value → Shared → Prop} {c : Value} {b : Bool}
/-- the type of a value, as the fragment's deciders take it; for an instance its class -/
inductive TyOf (K : PySem.W.Frag) (H : Hp) : V → Value → Prop where
  | non : TyOf K H .non (.type "NoneType")
  | bl (x : Bool) : TyOf K H (.bl x) (.type "bool")
  | int (i : Int) : TyOf K H (.int i) (.type "int")
  | str (x : Str) : TyOf K H (.str x) (.type "str")
  | flt (x : UInt64) : TyOf K H (.flt x) (.type "float")
  | lst {a : Addr} {xs : List V} (e : H a = some (.lst xs)) : TyOf K H (.ref a) (.type "list")
  | frz {a : Addr} {o : Obj} {xs : List V} (e : H a = some (.frz o (.lst xs))) : TyOf K H (.ref a) (.type "list")
  | tup {a : Addr} {xs : List V} (e : H a = some (.tup xs)) : TyOf K H (.ref a) (.type "tuple")
  | dK {a : Addr} {kvs : List (Key × V)} (e : H a = some (.dK kvs)) : TyOf K H (.ref a) (.type "dict")
  | dT {a : Addr} {kvs : List (List Key × V)} (e : H a = some (.dT kvs)) : TyOf K H (.ref a) (.type "dict")
  | ins {a C dx : Addr} {fs : List (Str × V)} (e : H a = some (.ins C dx fs)) (cl : Cls K C) (ha : PySem.W.findIn K (.ref C) "__class__" = some (some (.builtin "object.__class__")))
      (hn : PySem.W.specialIn K (.builtin "object.__class__") "__get__" = some (some (.builtin "getset_descriptor.__get__"))) (htk : PySem.W.takesIn K (.builtin "object.__class__") = some true)
      (hm : PySem.W.mroIn K C (.type "object") = some true) : TyOf K H (.ref a) (.ref C)
/-- isinstance(x, c) for one class c, a built-in or an own one: kitOne's answer -/
theorem isinst_ok {x : V} {u t : Value} (I : Inv X pins σ H s) (rx : RelV x u) (ty : TyOf X.K H x t) (e : PySem.W.kitOne X.K t c = some b) (h : ∀ tk, Q (.bool b) { s with toks := tk }) :
    wpAny (model X.prog X.w) A (call (.builtin "isinstance") [u, c]) Q E s := by
  cases ty with
  | non => cases (show u = Value.none from rx); exact PySem.W.kia_one PySem.W.kitx_none I.kIn True.intro e (fun z => nomatch z) h
  | bl y => cases (show u = Value.bool y from rx); exact PySem.W.kia_one PySem.W.kitx_bool I.kIn True.intro e (fun z => nomatch z) h
  | int i => obtain ⟨t, q⟩ := (show ∃ t, u = Value.int i t from rx); cases q; exact PySem.W.kia_one PySem.W.kitx_int I.kIn True.intro e (fun z => nomatch z) h
  | str y => obtain ⟨t, q⟩ := (show ∃ t, u = Value.str y t from rx); cases q; exact PySem.W.kia_one PySem.W.kitx_str I.kIn True.intro e (fun z => nomatch z) h
  | flt y => obtain ⟨t, q⟩ := (show ∃ t, u = Value.float y t from rx); cases q; exact PySem.W.kia_one PySem.W.kitx_float I.kIn True.intro e (fun z => nomatch z) h
  | @lst a xs ea =>
    cases (show u = Value.ref a from rx)
    obtain ⟨_, _, n, _, h1⟩ := (show ObjOk X.prog X.w H s.heap a (.lst xs) from I.hok a _ ea)
    exact PySem.W.kia_one PySem.W.kitx_list I.kIn ⟨_, h1, rfl⟩ e (fun z => nomatch z) h
  | @frz a ob xs ea =>
    cases (show u = Value.ref a from rx)
    obtain ⟨_, _, _, n, _, h1⟩ := (show ObjOk X.prog X.w H s.heap a (.frz ob (.lst xs)) from I.hok a _ ea)
    exact PySem.W.kia_one PySem.W.kitx_list I.kIn ⟨_, h1, rfl⟩ e (fun z => nomatch z) h
  | @tup a xs ea =>
    cases (show u = Value.ref a from rx)
    obtain ⟨_, _, _, p⟩ := (show ObjOk X.prog X.w H s.heap a (.tup xs) from I.hok a _ ea)
    obtain ⟨o, h1, h2, _⟩ := p
    exact PySem.W.kia_one PySem.W.kitx_tuple I.kIn ⟨o, h1, h2⟩ e (fun z => nomatch z) h
  | @dK a kvs ea =>
    cases (show u = Value.ref a from rx)
    obtain ⟨_, _, vs, _, p⟩ := (show ObjOk X.prog X.w H s.heap a (.dK kvs) from I.hok a _ ea)
    obtain ⟨o, es, ep, h1, h2, _⟩ := p
    exact PySem.W.kia_one PySem.W.kitx_dict I.kIn ⟨o, h1, h2.1⟩ e (fun z => nomatch z) h
  | @dT a kvs ea =>
    cases (show u = Value.ref a from rx)
    obtain ⟨_, _, xs, _, o, es, ep, h1, h2, _⟩ := (show ObjOk X.prog X.w H s.heap a (.dT kvs) from I.hok a _ ea)
    exact PySem.W.kia_one PySem.W.kitx_dict I.kIn ⟨o, h1, h2.1⟩ e (fun z => nomatch z) h
  | @ins a C dx fs ea cl ha hn htk hm =>
    cases (show u = Value.ref a from rx)
    obtain ⟨mA, O, _⟩ := ins_get I.hok ea
    obtain ⟨od, J, _⟩ := O.look
    exact PySem.W.kia_one (PySem.W.kitx_own (cl.get _) cl.hd ha hn htk hm) I.kIn J e (fun z => nomatch z) h
end
end L2

namespace L2
open PySem PySem.Spec PyProof.Rows

/-! ### room -/
structure Room (k : Nat) (A : Around) : Prop where
  hd : A.handled = none
  dp : A.depth + 3 * k + 5 < recursionLimit
  un : A.units + 16 * k + 200 < cLine
theorem Room.mono {j k : Nat} {A : Around} (r : Room k A) (h : j ≤ k) : Room j A := ⟨r.hd, by have := r.dp; omega, by have := r.un; omega⟩
theorem Room.deeper {k : Nat} {A : Around} (r : Room (k + 1) A) (env : Env) : Room k (A.deeper env) :=
  ⟨r.hd, by have := r.dp; show A.depth + 1 + 3 * k + 5 < _; omega, by have := r.un; show A.units + 3 + 16 * k + 200 < _; omega⟩
theorem Room.in1 {k : Nat} {A : Around} (r : Room (k + 1) A) : Room k A.in1 :=
  ⟨r.hd, by have := r.dp; show A.depth + 3 * k + 5 < _; omega, by have := r.un; show A.units + 1 + 16 * k + 200 < _; omega⟩
theorem make_depth {A : Around} {C : Addr} {us : List Value} {kw : List (Str × Value)} : (A.under (.builtin "type.__call__" ⟨.ref C :: us, kw⟩)).depth = A.depth + 1 := by
  first | rfl | simp [Around.under, Code.weight, Code.isCreation, Code.isGuard, Code.isCaller, Code.frames, Code.isFrame, guardIds]
theorem make_units {A : Around} {C : Addr} {us : List Value} {kw : List (Str × Value)} : (A.under (.builtin "type.__call__" ⟨.ref C :: us, kw⟩)).units = A.units + 1 := by
  first | rfl | simp [Around.under, Code.cUnits, Code.frames, Code.isFrame]
theorem Room.make {k : Nat} {A : Around} (r : Room (k + 1) A) (C : Addr) (us : List Value) (kw : List (Str × Value)) : Room k (A.under (.builtin "type.__call__" ⟨.ref C :: us, kw⟩)) :=
  ⟨r.hd, by have := r.dp; rw [make_depth]; omega, by have := r.un; rw [make_units]; omega⟩
theorem Room.depth {k : Nat} {A : Around} (r : Room k A) : A.depth < recursionLimit := by have := r.dp; omega
theorem Room.units {k : Nat} {A : Around} (r : Room k A) : A.units + 64 < cLine := by have := r.un; omega
theorem Room.units0 {k : Nat} {A : Around} (r : Room k A) : A.units < cLine := by have := r.un; omega

/-! ### argument lists and displays -/
def tNil : TA := fun _ H Q => Q [] H
def tCons (ta : TE) (tr : TA) : TA := fun σ H Q => ta σ H fun x H1 => tr σ H1 fun xs H2 => Q (x :: xs) H2
section
variable {X : Cx} {e : Expr} {es : List Expr} {te : TE} {t : TA} {pos : Pos}
theorem pa_nil : PA X [] tNil := fun _ _ _ _ H Q I h => Calls.spliced_nil ⟨[], H, I, .nil, h⟩
theorem pa_cons (ha : PE X e te) (hr : PA X es t) (hs : starEach (e :: es) X.env = (false, eval e X.env) :: starEach es X.env := by rfl) : PA X (e :: es) (tCons te t) := by
  intro pos pins s σ H Q I h
  rw [hs]
  show wpAny _ _ (spliced ((false, eval e X.env) :: backTo pos (starEach es X.env))) _ _ s
  refine Calls.spliced_cons (thn (ha pins s σ H _ I h) fun u s1 ⟨x, H1, I1, r1, q1⟩ => ?_)
  exact thn (hr pos pins s1 σ H1 _ I1 q1) fun us s2 ⟨xs, H2, I2, r2, q2⟩ => ⟨x :: xs, H2, I2, .cons r1 r2, q2⟩

/-- a tuple, a list of written items -/
def tTup (t : TA) : TE := fun σ H Q => t σ H fun xs H1 => xs.length ≤ sizeLine ∧ ∀ p, H1 p = none → Q (.ref p) (upd H1 p (.tup xs))
def tLst (t : TA) : TE := fun σ H Q => t σ H fun xs H1 => xs.length ≤ sizeLine ∧ ∀ p, H1 p = none → Q (.ref p) (upd H1 p (.lst xs))
theorem pe_tup {x1} (h : PA X es t) : PE X (.Tuple es x1 pos) (tTup t) := by
  intro pins s σ H Q I hq
  refine wpAny_Tuple_spliced (thn (h pos pins s σ H _ I hq) fun us s1 ⟨xs, H1, I1, r, z, q⟩ => ⟨by rw [← r.length]; exact z, ?_⟩)
  have hf : H1 s1.heap.objs.size = none := I1.hok.fresh (Nat.le_refl _)
  refine ⟨.ref s1.heap.objs.size, upd H1 s1.heap.objs.size (.tup xs), I1.laid (t' := s1.toks) (fun b u e => Heap.get?_push_of_some _ e) (Nat.le_refl _) ?_, rfl, q _ hf⟩
  exact ⟨z, us, r, ⟨_, Heap.get?_push_size _ rfl, rfl, _, rfl⟩⟩
theorem pe_lst (h : PA X es t) : PE X (.List es pos) (tLst t) := by
  intro pins s σ H Q I hq
  refine wpAny_List_spliced (thn (h pos pins s σ H _ I hq) fun us s1 ⟨xs, H1, I1, r, z, q⟩ => ⟨by rw [← r.length]; exact z, ?_⟩)
  have hf : H1 s1.heap.objs.size = none := I1.hok.fresh (Nat.le_refl _)
  refine ⟨.ref s1.heap.objs.size, upd H1 s1.heap.objs.size (.lst xs), I1.laid (t' := s1.toks) (fun b u e => Heap.get?_push_of_some _ e) (Nat.le_refl _) ?_, rfl, q _ hf⟩
  exact ⟨z, us, 0, r, Heap.get?_push_size _ rfl⟩
end

/-! ### what a def promises -/
/-- a def's promise: the bound arguments in the parameters' order, the heap, the wanted end, the wanted exception -/
abbrev Sp := List V → Hp → VK → XK → Prop
/-- how an exception lies behind a call (file 08 gives it): the callers' frames, abstract heap and state ahead of the call, the wish, the exception, the state -/
abbrev CXT := List Env → Hp → Shared → XK → Value → Shared → Prop

/-- the state at a call -/
structure Env0 (P : Program) (w : World) (K : PySem.W.Frag) (mg : Str → Option Value) (base : Heap) (A : Around) (outer : List Env) (s : Shared) (H : Hp) : Prop where
  frames : A.frames = some outer
  mod : Mod K mg base
  bs : ∀ b o, base.get? b = some o → s.heap.get? b = some o ∧ H b = none
  bsz : base.objs.size ≤ s.heap.objs.size
  funs : s.heap.FunFrames base outer
  frf : ∀ b ∈ frs outer, H b = none
  hok : HOk P w H s.heap
  bare : AllBare s.gens
/-- a call's end -/
def CE (outer : List Env) (P : Program) (w : World) (H : Hp) (s : Shared) (Q : VK) (u : Value) (s' : Shared) : Prop :=
  ∃ v H', s'.os = s.os ∧ AllBare s'.gens ∧ Un (frs outer) [] H H' s.heap s'.heap ∧ HOk P w H' s'.heap ∧ RelV v u ∧ Q v H'
def CR (CX : CXT) (outer : List Env) (P : Program) (w : World) (H : Hp) (s : Shared) (Q : VK) (E : XK) (r : Result) (s' : Shared) : Prop :=
  match r with
  | .ok (.ret u) => CE outer P w H s Q u s'
  | .ok _ => False
  | .error e => CX outer H s E e s'
structure FnOk (P : Program) (w : World) (K : PySem.W.Frag) (mg : Str → Option Value) (base : Heap) (CX : CXT) (k : Nat) (f : Addr) (fd : FuncData) (ps : List Str) (sp : Sp) : Prop where
  len : ∀ vs H Q E, sp vs H Q E → vs.length = ps.length
  run : ∀ (A : Around) (outer : List Env) (s : Shared) (H : Hp) (args : Args) (us : List Value) (vs : List V) (Q : VK) (E : XK), Room k A → Env0 P w K mg base A outer s H → BindsTo s fd args (ps.zip us) → Vals vs us → sp vs H Q E →
    codeAny (model P w) A (.call (.ref f) args) (CR CX outer P w H s Q E) s
theorem FnOk.mono {P : Program} {w : World} {K : PySem.W.Frag} {mg : Str → Option Value} {base : Heap} {CX : CXT} {j k : Nat} {f : Addr} {fd : FuncData} {ps : List Str} {sp : Sp} (F : FnOk P w K mg base CX j f fd ps sp) (h : j ≤ k) :
    FnOk P w K mg base CX k f fd ps sp := ⟨F.len, fun A outer s H args us vs Q E hr => F.run A outer s H args us vs Q E (hr.mono h)⟩
/-- a weaker promise -/
theorem FnOk.imp {P : Program} {w : World} {K : PySem.W.Frag} {mg : Str → Option Value} {base : Heap} {CX : CXT} {k : Nat} {f : Addr} {fd : FuncData} {ps : List Str} {sp sp' : Sp} (F : FnOk P w K mg base CX k f fd ps sp)
    (h : ∀ vs H Q E, sp' vs H Q E → sp vs H Q E) : FnOk P w K mg base CX k f fd ps sp' :=
  ⟨fun vs H Q E q => F.len vs H Q E (h _ _ _ _ q), fun A outer s H args us vs Q E hr he hb hv hs => F.run A outer s H args us vs Q E hr he hb hv (h _ _ _ _ hs)⟩

theorem Env0.make {P : Program} {w : World} {K : PySem.W.Frag} {mg : Str → Option Value} {base : Heap} {A : Around} {outer : List Env} {s : Shared} {H : Hp} (e : Env0 P w K mg base A outer s H) (C : Addr) (us : List Value) (kw : List (Str × Value)) :
    Env0 P w K mg base (A.under (.builtin "type.__call__" ⟨.ref C :: us, kw⟩)) outer s H := ⟨by first | exact e.frames | (simpa [Around.under, Code.envs, Code.isFrame, pushEnvs] using e.frames), e.mod, e.bs, e.bsz, e.funs, e.frf, e.hok, e.bare⟩
theorem Env0.in1 {P : Program} {w : World} {K : PySem.W.Frag} {mg : Str → Option Value} {base : Heap} {A : Around} {outer : List Env} {s : Shared} {H : Hp} (e : Env0 P w K mg base A outer s H) :
    Env0 P w K mg base A.in1 outer s H := ⟨e.frames, e.mod, e.bs, e.bsz, e.funs, e.frf, e.hok, e.bare⟩

section
variable {X : Cx} {pins : List (Addr × Obj)} {σ : St} {H : Hp} {s s' : Shared}
/-- from a body: what a callee wants -/
theorem Inv.env0 (I : Inv X pins σ H s) : Env0 X.prog X.w X.K X.mg X.base X.A X.stack s H :=
  ⟨I.ok.frames, I.ok.mod, I.bs, Nat.le_trans I.ok.bsz I.sz, I.stack, I.stkFree, I.hok, I.bare⟩
/-- behind a call -/
theorem Inv.after {Q : VK} {u : Value} (I : Inv X pins σ H s) (h : CE X.stack X.prog X.w H s Q u s') : EP X pins σ Q u s' := by
  obtain ⟨v, H', os, bare, un, hok, r, q⟩ := h
  obtain ⟨hh, g, d, t, os'⟩ := s'
  obtain rfl : os' = s.os := os
  exact ⟨v, H', I.call (h' := hh) (g' := g) (d' := d) (t' := t) (ch := []) un hok bare (fun b z => absurd z (by simp)), r, q⟩
end

/-! ### calls -/
/-- f(..): the written arguments, then the defaults dvs; E: what is wanted of an exception -/
def tCall (sp : Sp) (dvs : List V) (E : XK) (t : TA) : TE := fun σ H Q => t σ H fun vs H1 => sp (vs ++ dvs) H1 Q E
/-- o.m(..) of an instance of the class at C -/
def tMeth (C : Addr) (m : Str) (sp : Sp) (dvs : List V) (E : XK) (ta : TE) (t : TA) : TE := fun σ H Q => ta σ H fun x H1 => ∃ a dx fs, x = .ref a ∧ H1 a = some (.ins C dx fs) ∧ fs.lookup m = none ∧
  t σ H1 fun vs H2 => sp (x :: (vs ++ dvs)) H2 Q E
/-- C(..): a new instance and its dict, then __init__ -/
def tMake (C : Addr) (sp : Sp) (dvs : List V) (E : XK) (t : TA) : TE := fun σ H Q => t σ H fun vs H1 => ∀ x dx, H1 x = none → H1 dx = none → dx ≠ x →
  sp (.ref x :: (vs ++ dvs)) (upd (upd H1 dx (.own x)) x (.ins C dx [])) (fun v H2 => v = .non ∧ Q (.ref x) H2) E

/-- how the parameters are bound: us the positional arguments, kw the keywords' values by name, ds the defaults that fill up -/
def Binds (K : PySem.W.Frag) (fd : FuncData) (ps : List Str) (ds : List Value) : Prop :=
  ∀ (s : Shared) (us : List Value), K.In s.heap → (us ++ ds).length = ps.length → BindsTo s fd ⟨us, []⟩ (ps.zip (us ++ ds))
/-- every parameter is given -/
theorem Binds.all {K : PySem.W.Frag} {fd : FuncData} {ps : List Str} (h : ∀ us : List Value, us.length = ps.length → bindArgs fd ⟨us, []⟩ = pure (ps.zip us)) : Binds K fd ps [] := fun s us _ hl => by
  rw [List.append_nil] at hl ⊢
  exact .of_eq (h us hl)

/-- an exception of a callee reaches what this body wants of exceptions -/
def Passes (CX : CXT) (X : Cx) (E : XK) : Prop := ∀ (pins : List (Addr × Obj)) (σ : St) (H : Hp) (s : Shared) (e : Value) (s' : Shared), Inv X pins σ H s → CX X.stack H s E e s' → X.xe e s'

section
variable {X : Cx} {CX : CXT} {k : Nat} {f C : Addr} {fd : FuncData} {ps : List Str} {sp : Sp} {dvs : List V} {ds : List Value} {E : XK} {x m : Str} {p pos apos : Pos} {e o : Expr} {es : List Expr} {ta : TE} {t : TA}

/-- the callee runs -/
theorem run_fn {pins : List (Addr × Obj)} {σ : St} {H : Hp} {s : Shared} {Q : VK} {us : List Value} {vs : List V} (F : FnOk X.prog X.w X.K X.mg X.base CX k f fd ps sp) (hr : Room k X.A) (hb : Binds X.K fd ps ds) (hd : Vals dvs ds) (hx : Passes CX X E)
    (I : Inv X pins σ H s) (r : Vals vs us) (h : sp (vs ++ dvs) H Q E) : wpAny (model X.prog X.w) X.A (call (.ref f) us) (EP X pins σ Q) X.xe s := by
  have r2 : Vals (vs ++ dvs) (us ++ ds) := r.append hd
  have hl : (us ++ ds).length = ps.length := by rw [← r2.length]; exact F.len _ _ _ _ h
  refine wpAny_call (codeAny_mono (F.run X.A X.stack s H ⟨us, []⟩ (us ++ ds) (vs ++ dvs) Q E hr I.env0 (hb s us I.kIn hl) r2 h) fun r s' hq => ?_)
  cases r with
  | error e => exact hx pins σ H s e s' I hq
  | ok fl =>
    cases fl with
    | ret u => exact I.after hq
    | next => exact False.elim hq
    | brk => exact False.elim hq
    | cont => exact False.elim hq

theorem pe_call (F : FnOk X.prog X.w X.K X.mg X.base CX k f fd ps sp) (hr : Room k X.A) (hg : Gl X x) (hm : X.mg x = some (.ref f)) (hk : PySem.W.keepIn X.K (.ref f) = true) (hb : Binds X.K fd ps ds) (hd : Vals dvs ds) (hx : Passes CX X E)
    (ha : PA X (e :: es) t) (hdb : (x == ("__debug__" : Str)) = false := by decide) (he : starEach (e :: es) X.env = (false, eval e X.env) :: starEach es X.env := by rfl) (hpl : (backTo pos (starEach es X.env)).any (·.1) = false := by rfl) :
    PE X (.Call (.Name x p) (e :: es) [] pos) (tCall sp dvs E t) := by
  intro pins s σ H Q I h
  refine wpAny_Call_Name_kw (ld_glob I hg hm ?_ hdb)
  refine PySem.W.callWith_K (h₀ := X.base) I.ok.mod.kin hk (thn (ha pos pins s σ H _ I h) fun us s1 ⟨vs, H1, I1, r, q⟩ => ⟨I1.kIn, ?_⟩) he hpl
  exact run_fn F hr hb hd hx I1 r q
theorem pe_call0 (F : FnOk X.prog X.w X.K X.mg X.base CX k f fd ps sp) (hr : Room k X.A) (hg : Gl X x) (hm : X.mg x = some (.ref f)) (hk : PySem.W.keepIn X.K (.ref f) = true) (hb : Binds X.K fd ps ds) (hd : Vals dvs ds) (hx : Passes CX X E)
    (hdb : (x == ("__debug__" : Str)) = false := by decide) : PE X (.Call (.Name x p) [] [] pos) (tCall sp dvs E tNil) := by
  intro pins s σ H Q I h
  refine wpAny_Call_Name_kw (ld_glob I hg hm ?_ hdb)
  exact PySem.W.callWith_K0 I.kIn hk (run_fn (us := []) F hr hb hd hx I .nil h)

/-- o.m(e, ..) -/
theorem pe_meth {pl : Sem Bool} (he : PE X o ta) (c : Cls X.K C) (hm : Meth X.K C m f) (F : FnOk X.prog X.w X.K X.mg X.base CX k f fd ps sp) (hr : Room k X.A) (hb : Binds X.K fd ps ds) (hd : Vals dvs ds) (hx : Passes CX X E) (ha : PA X (e :: es) t)
    (hst : starEach (e :: es) X.env = (false, eval e X.env) :: starEach es X.env := by rfl) (hpl : (backTo pos (starEach es X.env)).any (·.1) = false := by rfl)
    (ht : eval (.Call (.Attribute o m apos) (e :: es) [] pos) X.env = (do
      let ov ← eval o X.env
      standAt apos.atName
      let (f, first) ← holding [ov] (getMethod ov m pl)
      callWith pos f first (backTo pos (starEach (e :: es) X.env)) (backToKw pos (keywordEach [] X.env))) := by rfl) :
    PE X (.Call (.Attribute o m apos) (e :: es) [] pos) (tMeth C m sp dvs E ta t) := by
  intro pins s σ H Q I h
  refine PySem.W.methodCall_KW (pl := pl) (thn (he pins s σ H _ I h) fun u s1 ⟨x, H1, I1, rx, a, dx, fs, ex, ea, l, q⟩ => ?_) ht
  subst ex
  obtain rfl : u = Value.ref a := rx
  refine getmeth_ok I1 ea c hm l ?_
  refine PySem.W.callWith_K (first := [.ref a]) (h₀ := X.base) I.ok.mod.kin hm.kp (thn (ha pos pins s1 σ H1 _ I1 q) fun us s2 ⟨vs, H2, I2, r, q2⟩ => ⟨I2.kIn, ?_⟩) hst hpl
  exact run_fn (us := .ref a :: us) (vs := .ref a :: vs) F hr hb hd hx I2 (.cons rfl r) q2
/-- o.m() -/
theorem pe_meth0 {pl : Sem Bool} (he : PE X o ta) (c : Cls X.K C) (hm : Meth X.K C m f) (F : FnOk X.prog X.w X.K X.mg X.base CX k f fd ps sp) (hr : Room k X.A) (hb : Binds X.K fd ps ds) (hd : Vals dvs ds) (hx : Passes CX X E)
    (ht : eval (.Call (.Attribute o m apos) [] [] pos) X.env = (do
      let ov ← eval o X.env
      standAt apos.atName
      let (f, first) ← holding [ov] (getMethod ov m pl)
      callWith pos f first (backTo pos (starEach [] X.env)) (backToKw pos (keywordEach [] X.env))) := by rfl) :
    PE X (.Call (.Attribute o m apos) [] [] pos) (tMeth C m sp dvs E ta tNil) := by
  intro pins s σ H Q I h
  refine PySem.W.methodCall_KW (pl := pl) (thn (he pins s σ H _ I h) fun u s1 ⟨x, H1, I1, rx, a, dx, fs, ex, ea, l, q⟩ => ?_) ht
  subst ex
  obtain rfl : u = Value.ref a := rx
  refine getmeth_ok I1 ea c hm l ?_
  exact PySem.W.callWith_K0 (first := [.ref a]) I1.kIn hm.kp (run_fn (us := [.ref a]) (vs := [.ref a]) F hr hb hd hx I1 (.cons rfl .nil) q)

/-- what a class must have to be made -/
structure Mk (K : PySem.W.Frag) (C f : Addr) : Prop where
  makes : PySem.W.makesIn K C = true
  init : PySem.W.findIn K (.ref C) "__init__" = some (some (.ref f))
  fn : PySem.W.isFn K (.ref f) = true
  kp : PySem.W.keepIn K (.ref C) = true

theorem run_make {pins : List (Addr × Obj)} {σ : St} {H : Hp} {s : Shared} {Q : VK} {us : List Value} {vs : List V} (M : Mk X.K C f) (F : FnOk X.prog X.w X.K X.mg X.base CX k f fd ps sp) (hr : Room (k + 1) X.A) (hb : Binds X.K fd ps ds) (hd : Vals dvs ds)
    (hx : Passes CX X E) (I : Inv X pins σ H s) (r : Vals vs us)
    (h : ∀ x dx, H x = none → H dx = none → dx ≠ x → sp (.ref x :: (vs ++ dvs)) (upd (upd H dx (.own x)) x (.ins C dx [])) (fun v H2 => v = .non ∧ Q (.ref x) H2) E) :
    wpAny (model X.prog X.w) X.A (call (.ref C) us) (EP X pins σ Q) X.xe s := by
  have hq := h (s.heap.objs.size + 1) s.heap.objs.size (I.hok.fresh (Nat.le_succ _)) (I.hok.fresh (Nat.le_refl _)) (Nat.ne_of_lt (Nat.lt_succ_self _))
  have I2 := Inv.made (C := C) I
  have r2 : Vals (V.ref (s.heap.objs.size + 1) :: (vs ++ dvs)) (Value.ref (s.heap.objs.size + 1) :: (us ++ ds)) := .cons rfl (r.append hd)
  have hl : (Value.ref (s.heap.objs.size + 1) :: us ++ ds).length = ps.length := by
    have e := r2.length
    rw [F.len _ _ _ _ hq] at e
    exact e.symm
  refine wpAny_call (make_map (f := f) I.kIn M.makes M.init (beq_iff_eq.mp M.fn) (codeAny_mono (F.run _ X.stack _ _ ⟨Value.ref (s.heap.objs.size + 1) :: us, []⟩ (Value.ref (s.heap.objs.size + 1) :: (us ++ ds)) _ _ E (hr.make C us [])
    (I2.env0.make C us []) (hb _ (Value.ref (s.heap.objs.size + 1) :: us) I2.kIn hl) r2 hq) fun r s' hq' => ?_))
  cases r with
  | error e => exact hx pins σ _ _ e s' I2 hq'
  | ok fl =>
    cases fl with
    | ret u =>
      obtain ⟨v, H', I3, rv, ev, q3⟩ := I2.after hq'
      subst ev
      exact ⟨rv, ⟨V.ref (s.heap.objs.size + 1), H', I3, rfl, q3⟩⟩
    | next => exact False.elim hq'
    | brk => exact False.elim hq'
    | cont => exact False.elim hq'
theorem pe_make (M : Mk X.K C f) (F : FnOk X.prog X.w X.K X.mg X.base CX k f fd ps sp) (hr : Room (k + 1) X.A) (hg : Gl X x) (hm : X.mg x = some (.ref C)) (hb : Binds X.K fd ps ds) (hd : Vals dvs ds) (hx : Passes CX X E)
    (ha : PA X (e :: es) t) (hdb : (x == ("__debug__" : Str)) = false := by decide) (he : starEach (e :: es) X.env = (false, eval e X.env) :: starEach es X.env := by rfl) (hpl : (backTo pos (starEach es X.env)).any (·.1) = false := by rfl) :
    PE X (.Call (.Name x p) (e :: es) [] pos) (tMake C sp dvs E t) := by
  intro pins s σ H Q I h
  refine wpAny_Call_Name_kw (ld_glob I hg hm ?_ hdb)
  refine PySem.W.callWith_K (h₀ := X.base) I.ok.mod.kin M.kp (thn (ha pos pins s σ H _ I h) fun us s1 ⟨vs, H1, I1, r, q⟩ => ⟨I1.kIn, ?_⟩) he hpl
  exact run_make M F hr hb hd hx I1 r q
theorem pe_make0 (M : Mk X.K C f) (F : FnOk X.prog X.w X.K X.mg X.base CX k f fd ps sp) (hr : Room (k + 1) X.A) (hg : Gl X x) (hm : X.mg x = some (.ref C)) (hb : Binds X.K fd ps ds) (hd : Vals dvs ds) (hx : Passes CX X E)
    (hdb : (x == ("__debug__" : Str)) = false := by decide) : PE X (.Call (.Name x p) [] [] pos) (tMake C sp dvs E tNil) := by
  intro pins s σ H Q I h
  refine wpAny_Call_Name_kw (ld_glob I hg hm ?_ hdb)
  exact PySem.W.callWith_K0 I.kIn M.kp (run_make (us := []) M F hr hb hd hx I .nil h)
end

/-! ### keywords -/
/-- the values of the keywords, from the left -/
def PK (X : Cx) (kws : List Keyword) (t : TA) : Prop :=
  ∀ (pos : Pos) (pins : List (Addr × Obj)) (s : Shared) (σ : St) (H : Hp) (Q : List V → Hp → Prop), Inv X pins σ H s → t σ H Q → wpAny (model X.prog X.w) X.A (evalAll ((backToKw pos (keywordEach kws X.env)).map (·.2))) (AP X pins σ Q) X.xe s
section
variable {X : Cx} {CX : CXT} {k : Nat} {f C : Addr} {fd : FuncData} {ps ks : List Str} {sp : Sp} {E : XK} {x m : Str} {p pos apos kpos : Pos} {e o : Expr} {es : List Expr} {kws : List Keyword} {te ta : TE} {t tk : TA} {nm : Option Str}
theorem pk_nil : PK X [] tNil := fun _ _ _ _ H Q I h => wpAny_evalAll_nil ⟨[], H, I, .nil, h⟩
theorem pk_cons (ha : PE X e te) (hr : PK X kws t) : PK X (⟨nm, e, kpos⟩ :: kws) (tCons te t) := by
  intro pos pins s σ H Q I h
  show wpAny _ _ (evalAll ((do let v ← eval e X.env; standAt pos; pure v) :: (backToKw pos (keywordEach kws X.env)).map (·.2))) _ _ s
  refine wpAny_evalAll_cons (wpAny_bind (thn (ha pins s σ H _ I h) fun u s1 ⟨x, H1, I1, r1, q1⟩ => wpAny_bind (wpAny_standAt (wpAny_pure ?_))))
  exact thn (hr pos pins s1 σ H1 _ I1 q1) fun us s2 ⟨xs, H2, I2, r2, q2⟩ => ⟨x :: xs, H2, I2, .cons r1 r2, q2⟩

/-- how a call with keywords binds: g puts the positional values us and the keywords' values ws (names ks) in the parameters' order, defaults among them -/
structure KBinds (K : PySem.W.Frag) (fd : FuncData) (ps ks : List Str) (g : List Value → List Value → List Value) (gV : List V → List V → List V) : Prop where
  to : ∀ (s : Shared) (us ws : List Value), K.In s.heap → (g us ws).length = ps.length → BindsTo s fd ⟨us, ks.zip ws⟩ (ps.zip (g us ws))
  rel : ∀ {vs : List V} {us : List Value} {zs : List V} {ws : List Value}, Vals vs us → Vals zs ws → Vals (gV vs zs) (g us ws)
def tCallK (sp : Sp) (gV : List V → List V → List V) (E : XK) (t tk : TA) : TE := fun σ H Q => t σ H fun vs H1 => tk σ H1 fun zs H2 => sp (gV vs zs) H2 Q E
variable {g : List Value → List Value → List Value} {gV : List V → List V → List V}
theorem run_fnk {pins : List (Addr × Obj)} {σ : St} {H : Hp} {s : Shared} {Q : VK} {us ws : List Value} {vs zs : List V} (F : FnOk X.prog X.w X.K X.mg X.base CX k f fd ps sp) (hr : Room k X.A) (hb : KBinds X.K fd ps ks g gV) (hx : Passes CX X E)
    (I : Inv X pins σ H s) (r : Vals vs us) (rz : Vals zs ws) (h : sp (gV vs zs) H Q E) : wpAny (model X.prog X.w) X.A (call (.ref f) us (ks.zip ws)) (EP X pins σ Q) X.xe s := by
  have r2 := hb.rel r rz
  have hl : (g us ws).length = ps.length := by rw [← r2.length]; exact F.len _ _ _ _ h
  refine wpAny_call (codeAny_mono (F.run X.A X.stack s H ⟨us, ks.zip ws⟩ (g us ws) (gV vs zs) Q E hr I.env0 (hb.to s us ws I.kIn hl) r2 h) fun r s' hq => ?_)
  cases r with
  | error e => exact hx pins σ H s e s' I hq
  | ok fl =>
    cases fl with
    | ret u => exact I.after hq
    | next => exact False.elim hq
    | brk => exact False.elim hq
    | cont => exact False.elim hq
/-- f(e, .., k = v, ..) -/
theorem pe_callK (F : FnOk X.prog X.w X.K X.mg X.base CX k f fd ps sp) (hr : Room k X.A) (hg : Gl X x) (hm : X.mg x = some (.ref f)) (hk : PySem.W.keepIn X.K (.ref f) = true) (hb : KBinds X.K fd ps ks g gV) (hx : Passes CX X E)
    (ha : PA X (e :: es) t) (hkw : PK X kws tk) (hall : (backToKw pos (keywordEach kws X.env)).all (·.1.isSome) = true := by rfl) (hks : (backToKw pos (keywordEach kws X.env)).filterMap (·.1) = ks := by rfl)
    (hdb : (x == ("__debug__" : Str)) = false := by decide) (he : starEach (e :: es) X.env = (false, eval e X.env) :: starEach es X.env := by rfl)
    (hpl : ((backTo pos (starEach (e :: es) X.env)).any (·.1) || (backToKw pos (keywordEach kws X.env)).any (·.1.isNone)) = false := by rfl) :
    PE X (.Call (.Name x p) (e :: es) kws pos) (tCallK sp gV E t tk) := by
  intro pins s σ H Q I h
  refine wpAny_Call_Name_kw (ld_glob I hg hm ?_ hdb)
  refine PySem.W.callWith_KW (h₀ := X.base) I.ok.mod.kin hk hall (thn (ha pos pins s σ H _ I h) fun us s1 ⟨vs, H1, I1, r, q⟩ => ?_) hpl he
  refine thn (hkw pos pins s1 σ H1 _ I1 q) fun ws s2 ⟨zs, H2, I2, rz, q2⟩ => ⟨I2.kIn, ?_⟩
  rw [hks]
  exact run_fnk F hr hb hx I2 r rz q2
end

/-! ### a def's body keeps its promise -/
/-- names: the parameters first -/
structure FnScope (N P : List Str) (sc : Scope) : Prop where
  kind : sc.kind = .function
  co : sc.isCoroutine = false
  gen : sc.isGenerator = false
  nd : N.Nodup
  pre : N.take P.length = P
  par : ∀ x ∈ P, sc.names.lookup x = some .local ∨ sc.names.lookup x = some .cell
  nofree : ∀ y ∈ sc.names, y.2 ≠ .free

theorem bindL_out {kindOf : Str → Option NameKind} {x : Str} : ∀ {binds : List (Str × Value)} {m : Str → Option Value}, (∀ v, (x, v) ∉ binds) → bindL kindOf binds m x = m x
  | [], _, _ => rfl
  | (n, v) :: r, m, h => by
    unfold bindL
    rw [bindL_out fun w hw => h w (List.mem_cons_of_mem _ hw)]
    split
    · have : x ≠ n := by rintro rfl; exact h v List.mem_cons_self
      simp [this]
    · rfl
theorem bindC_out {kindOf : Str → Option NameKind} {x : Str} : ∀ {binds : List (Str × Value)} {m : Str → Option Value}, (∀ v, (x, v) ∉ binds) → bindC kindOf binds m x = m x
  | [], _, _ => rfl
  | (n, v) :: r, m, h => by
    unfold bindC
    rw [bindC_out fun w hw => h w (List.mem_cons_of_mem _ hw)]
    split
    · rfl
    · have : x ≠ n := by rintro rfl; exact h v List.mem_cons_self
      simp [this]
theorem bindL_get {kindOf : Str → Option NameKind} {x : Str} {v : Value} : ∀ {P : List Str} {vs : List Value} {i : Nat} {m : Str → Option Value}, P.Nodup → P[i]? = some x → vs[i]? = some v → kindOf x = some .local →
    bindL kindOf (P.zip vs) m x = some v
  | [], _, _, _, _, h, _, _ => by simp at h
  | _ :: _, [], _, _, _, _, h, _ => by simp at h
  | p :: P, w :: vs, 0, m, nd, h1, h2, hk => by
    simp at h1 h2; subst h1; subst h2
    show bindL kindOf ((p, w) :: P.zip vs) m p = _
    unfold bindL
    rw [bindL_out fun v hv => (List.nodup_cons.mp nd).1 (List.of_mem_zip hv).1, if_pos hk]
    simp
  | p :: P, w :: vs, i + 1, m, nd, h1, h2, hk => by
    show bindL kindOf ((p, w) :: P.zip vs) m x = _
    unfold bindL
    exact bindL_get (i := i) (List.nodup_cons.mp nd).2 (by simpa using h1) (by simpa using h2) hk
theorem bindC_get {kindOf : Str → Option NameKind} {x : Str} {v : Value} : ∀ {P : List Str} {vs : List Value} {i : Nat} {m : Str → Option Value}, P.Nodup → P[i]? = some x → vs[i]? = some v → kindOf x ≠ some .local →
    bindC kindOf (P.zip vs) m x = some v
  | [], _, _, _, _, h, _, _ => by simp at h
  | _ :: _, [], _, _, _, _, h, _ => by simp at h
  | p :: P, w :: vs, 0, m, nd, h1, h2, hk => by
    simp at h1 h2; subst h1; subst h2
    show bindC kindOf ((p, w) :: P.zip vs) m p = _
    unfold bindC
    rw [bindC_out fun v hv => (List.nodup_cons.mp nd).1 (List.of_mem_zip hv).1, if_neg hk]
    simp
  | p :: P, w :: vs, i + 1, m, nd, h1, h2, hk => by
    show bindC kindOf ((p, w) :: P.zip vs) m x = _
    unfold bindC
    exact bindC_get (i := i) (List.nodup_cons.mp nd).2 (by simpa using h1) (by simpa using h2) hk

/-- the names' values at the entry -/
def start (N : List Str) (vs : List V) : St := vs.map some ++ List.replicate (N.length - vs.length) none

/-- the context of a def's body, at its entry; an exception leaves the frame, then lies as CX says -/
def cxOf (CX : CXT) (P : Program) (w : World) (K : PySem.W.Frag) (mg : Str → Option Value) (base : Heap) (N : List Str) (qual : Str) (scope : Scope) (f : Addr) (cd : Value) (A : Around) (outer : List Env) (s : Shared) (H : Hp) (E : XK) : Cx where
  prog := P
  w := w
  K := K
  mg := mg
  base := base
  A := A.deeper (envOfC qual scope s.heap.objs.size f cd)
  N := N
  s₀ := s
  H₀ := H
  env := envOfC qual scope s.heap.objs.size f cd
  outer := outer
  stack := envOfC qual scope s.heap.objs.size f cd :: outer
  ex := []
  calm := true
  fn := fun _ => true
  pn := []
  xe := fun e s' => wpAny (model P w) (A.deeper (envOfC qual scope s.heap.objs.size f cd)) (leaving (envOfC qual scope s.heap.objs.size f cd) e) (fun _ s'' => CX outer H s E e s'') (fun e' s'' => CX outer H s E e' s'') s'

theorem cell_has {sc : Scope} {n : Nat} {x : Str} (h : sc.names.lookup x = some .cell) : ∃ c, (cellsFrom n sc.names []).lookup x = some c := by
  have q := PySem.W.cellsFrom_some sc.names n [] (.inl h)
  exact Option.isSome_iff_exists.mp q

theorem inv_start {CX : CXT} {P : Program} {w : World} {K : PySem.W.Frag} {mg : Str → Option Value} {base : Heap} {N ps : List Str} {qual : Str} {scope : Scope} {f : Addr} {cd : Value} {A : Around} {outer : List Env} {s s1 : Shared} {H : Hp} {E : XK} {us : List Value} {vs : List V}
    (S : FnScope N ps scope) (hd : A.handled = none) (e0 : Env0 P w K mg base A outer s H) (hl : vs.length = ps.length) (r : Vals vs us)
    (x : InCallC s s.heap.objs.size (bindL (envOfC qual scope s.heap.objs.size f cd).kindOf (ps.zip us) fun _ => none) (cellsFrom (s.heap.objs.size + 1) scope.names []) (bindC (envOfC qual scope s.heap.objs.size f cd).kindOf (ps.zip us) fun _ => none) s1) :
    Inv (cxOf CX P w K mg base N qual scope f cd A outer s H E) [] (start N vs) H s1 := by
  have hpl : ps.length ≤ N.length := by have := congrArg List.length S.pre; rw [List.length_take] at this; omega
  obtain ⟨h1, tk, rfl, hk⟩ := x.done
  have noA : ∀ b : Addr, b ∉ (cxOf CX P w K mg base N qual scope f cd A outer s H E).ex := fun b z => absurd (show b ∈ ([] : List Addr) from z) (by simp)
  refine ⟨⟨e0.mod, S.kind, rfl, rfl, Nat.le_refl _, fun y z c h1 h2 => ?_, fun y hy => ?_, fun y c _ h => ?_, fun _ => hd, Around.frames_deeper e0.frames, .inr ⟨rfl, rfl⟩, fun b z => absurd z (noA b), e0.bs, e0.bsz, fun b _ _ => noA b, fun b z => absurd z (noA b), e0.funs, e0.frf⟩,
    rfl, e0.bare, Un.kept hk, ⟨_, x.toInCall.ns, fun i y v h1 h2 h3 => ?_⟩, fun y c h => ⟨_, x.cell y c h⟩, e0.hok.fresh (Nat.le_refl _), fun y c h => ?_, fun p hp => absurd (show p ∈ ([] : List (Addr × Obj)) from hp) (by simp), e0.hok.kept hk, ?_⟩
  · exact name_of_addr x.apart (PySem.mem_of_lookup h1) (PySem.mem_of_lookup h2)
  · have hy : scope.names.lookup y = some .cell ∨ scope.names.lookup y = some .free := hy
    rcases hy with hy | hy
    · exact cell_has hy
    · exact absurd rfl (S.nofree _ (PySem.mem_of_lookup hy))
  · exact Nat.le_of_lt (x.above y c (PySem.mem_of_lookup h))
  · have hi : i < vs.length := by
      unfold start at h2
      by_cases hi : i < vs.length
      · exact hi
      · rw [List.getElem?_append_right (by simpa using hi)] at h2
        rw [List.getElem?_replicate] at h2
        split at h2 <;> cases h2
    have ha : vs[i]? = some v := by
      unfold start at h2
      rw [List.getElem?_append_left (by simpa using hi), List.getElem?_map] at h2
      cases e : vs[i]? with
      | none => rw [e] at h2; cases h2
      | some a => rw [e] at h2; cases h2; rfl
    obtain ⟨u, hu, rv⟩ := r.get ha
    have hp : ps[i]? = some y := by
      rw [← S.pre, List.getElem?_take_of_lt (by omega)]; exact h1
    have ndP : ps.Nodup := by rw [← S.pre]; exact S.nd.sublist (List.take_sublist _ _)
    refine ⟨u, rv, ?_⟩
    rcases S.par y (List.mem_of_getElem? hp) with k | k
    · exact .inl ⟨k, bindL_get ndP hp hu k⟩
    · obtain ⟨c, e⟩ := cell_has (n := s.heap.objs.size + 1) k
      refine .inr ⟨.inl k, c, e, ?_⟩
      have q := x.cell y c e
      rw [bindC_get ndP hp hu (by show scope.names.lookup y ≠ _; rw [k]; decide)] at q
      exact q
  · exact e0.hok.fresh (Nat.le_of_lt (x.above y c (PySem.mem_of_lookup h)))
  · unfold start
    show _ = N.length
    rw [List.length_append, List.length_map, List.length_replicate]
    omega

/-- THE RULE: a def (or a method) of the text, by its body. The body's reading t is chosen for each entry; it is run at the parameters' values -/
theorem fn_of {CX : CXT} {P : Program} {w : World} {K : PySem.W.Frag} {mg : Str → Option Value} {base : Heap} {k : Nat} {f : Addr} {name qual : Str} {params : Arguments} {body : List Stmt} {scope : Scope} {dV kV doc pm cdv ct oc : Value} {an od : Option Addr}
    {osl : Array (Option Value)} {N ps : List Str} {sp : Sp} (lk : K.lookup f = some ⟨oc, od, .func (PySem.W.fnOf name qual params body scope dV kV doc pm an cdv ct), osl⟩) (hcd : PySem.W.codeIn K cdv qual = true) (S : FnScope N ps scope)
    (len : ∀ vs H Q E, sp vs H Q E → vs.length = ps.length)
    (hbody : ∀ (A : Around) (outer : List Env) (s : Shared) (H : Hp) (vs : List V) (Q : VK) (E : XK), Room k (A.deeper (envOfC qual scope s.heap.objs.size f cdv)) → sp vs H Q E →
      ∃ t, PSs (cxOf CX P w K mg base N qual scope f cdv A outer s H E) body t ∧ t { nx := fun _ H' => Q .non H', rt := Q } (start N vs) H) :
    FnOk P w K mg base CX (k + 1) f (PySem.W.fnOf name qual params body scope dV kV doc pm an cdv ct) ps sp := by
  refine ⟨len, fun A outer s H args us vs Q E hr e0 hb r hsp => ?_⟩
  have hl := len _ _ _ _ hsp
  have KX : K.In s.heap := e0.mod.kin.keeps fun b o e => (e0.bs b o e).1
  have lim : s.heap.NoLimit := e0.mod.nolimit.keeps fun b o e => (e0.bs b o e).1
  have hkind : ∀ y ∈ ps.zip us, scope.names.lookup y.1 = some .local ∨ (scope.names.lookup y.1 = some .cell ∧ ((cellsFrom (s.heap.objs.size + 1) scope.names []).lookup y.1).isSome = true) := fun ⟨n, v⟩ hy => by
    rcases S.par n (List.of_mem_zip hy).1 with q | q
    · exact .inl q
    · exact .inr ⟨q, PySem.W.cellsFrom_some _ _ _ (.inl q)⟩
  refine codeAny_call_function hr.depth (KX _ _ lk) rfl S.co S.gen rfl (PySem.W.codeRec_of KX hcd) (hb _ _ _ _ ?_)
  refine wpAny_newFunctionEnv_cells S.kind hkind fun env he s1 x => ?_
  subst he
  refine ⟨lim.keeps x.toInCall.keep, codeAny_func ?_⟩
  obtain ⟨t, ht, hq⟩ := hbody A outer s H vs Q E (hr.deeper _) hsp
  have I : Inv (cxOf CX P w K mg base N qual scope f cdv A outer s H E) [] (start N vs) H s1 := inv_start S hr.hd e0 hl r x
  refine wpAny_mono (ht [] s1 (start N vs) H _ I hq) (fun fl s' hs => ?_) fun e s' hs => hs
  have fin : ∀ {σ' : St} {H' : Hp} {v : V} {u : Value}, Inv (cxOf CX P w K mg base N qual scope f cdv A outer s H E) [] σ' H' s' → RelV v u → Q v H' → CE outer P w H s Q u s' :=
    fun {σ' H' v u} J rv q => ⟨v, H', J.os, J.bare, J.base, J.hok, rv, q⟩
  cases fl with
  | ret u =>
    obtain ⟨v, σ', H', J, rv, q⟩ := hs
    exact fin J rv q
  | next =>
    obtain ⟨σ', H', J, q⟩ := hs
    exact fin (v := V.non) (u := Value.none) J rfl q
  | brk =>
    obtain ⟨_, _, _, q⟩ := hs
    exact False.elim q
  | cont =>
    obtain ⟨_, _, _, q⟩ := hs
    exact False.elim q
end L2

namespace L2
open PySem PySem.Spec PyProof.Rows
section
variable {X : Cx} {x : Str} {p pos : Pos} {e : Expr} {es : List Expr} {t : TA} {id T : String} {r : List V → Hp → VK → Prop}

def tCB (r : List V → Hp → VK → Prop) (t : TA) : TE := fun σ H Q => t σ H fun vs H1 => r vs H1 Q
/-- f(e, ..), f a built-in function -/
theorem pe_callB (hc : CallR X (.builtin id) r) (hg : Gl X x) (hm : X.mg x = none) (hv : bootBuiltins x = some (.builtin id)) (ha : PA X (e :: es) t) (hn : x ≠ "__name__" := by decide) (hdb : (x == ("__debug__" : Str)) = false := by decide)
    (he : starEach (e :: es) X.env = (false, eval e X.env) :: starEach es X.env := by rfl) (hpl : (backTo pos (starEach es X.env)).any (·.1) = false := by rfl) : PE X (.Call (.Name x p) (e :: es) [] pos) (tCB r t) := by
  intro pins s σ H Q I h
  refine wpAny_Call_Name_kw (ld_blt I hg hm hv ?_ hn hdb)
  exact PyProof.Rows.callWith_builtin1 (thn (ha pos pins s σ H _ I h) fun us s1 ⟨vs, H1, I1, r1, q1⟩ => hc pins s1 σ H1 vs us Q I1 r1 q1) he hpl
/-- T(e, ..), T a built-in type -/
theorem pe_callTy (hc : CallR X (.type T) r) (hg : Gl X x) (hm : X.mg x = none) (hv : bootBuiltins x = some (.type T)) (ha : PA X (e :: es) t) (hn : x ≠ "__name__" := by decide) (hdb : (x == ("__debug__" : Str)) = false := by decide)
    (he : starEach (e :: es) X.env = (false, eval e X.env) :: starEach es X.env := by rfl) (hpl : (backTo pos (starEach es X.env)).any (·.1) = false := by rfl) : PE X (.Call (.Name x p) (e :: es) [] pos) (tCB r t) := by
  intro pins s σ H Q I h
  refine wpAny_Call_Name_kw (ld_blt I hg hm hv ?_ hn hdb)
  exact PyProof.Rows.callWith_type1 (thn (ha pos pins s σ H _ I h) fun us s1 ⟨vs, H1, I1, r1, q1⟩ => hc pins s1 σ H1 vs us Q I1 r1 q1) he hpl
/-- T() -/
theorem pe_callTy0 (hc : CallR X (.type T) r) (hg : Gl X x) (hm : X.mg x = none) (hv : bootBuiltins x = some (.type T)) (hn : x ≠ "__name__" := by decide) (hdb : (x == ("__debug__" : Str)) = false := by decide) :
    PE X (.Call (.Name x p) [] [] pos) (tCB r tNil) := by
  intro pins s σ H Q I h
  refine wpAny_Call_Name_kw (ld_blt I hg hm hv ?_ hn hdb)
  exact PyProof.Rows.callWith_type0 (hc pins s σ H [] [] Q I .nil h)
end
end L2

namespace HT
open PySem PyProof.Rows

/-- t < u of tuples of ints -/
def lexLt : List Int → List Int → Bool
  | [], [] => false
  | [], _ :: _ => true
  | _ :: _, [] => false
  | x :: xs, y :: ys => if x = y then lexLt xs ys else decide (x < y)
theorem lexLt_cons (x y : Int) (xs ys : List Int) : lexLt (x :: xs) (y :: ys) = if x = y then lexLt xs ys else decide (x < y) := rfl
theorem lexLt_nil_nil : lexLt [] [] = false := rfl
theorem lexLt_nil_cons (y : Int) (ys : List Int) : lexLt [] (y :: ys) = true := rfl
theorem lexLt_cons_nil (x : Int) (xs : List Int) : lexLt (x :: xs) [] = false := rfl

theorem eqAt_int (A : Around) (s : Shared) (a : Int) (t : Tok) (c : Int) (u : Tok) : ∃ e, SeqAt.EqAt A s (.int a t) (.int c u) e ∧ (e = true ↔ a = c) :=
  ⟨(a == c), SeqAt.EqAt.int_int a t c u, by simp⟩
theorem rcLt_int (A : Around) (s : Shared) (a : Int) (t : Tok) (c : Int) (u : Tok) (prog : Program) (w : World) (E : Value → Shared → Prop) (Q : Value → Shared → Prop) (h : Q (.bool (decide (a < c))) s) :
    wpAny (model prog w) A (richCompare .Lt (.int a t) (.int c u)) Q E s :=
  (PyProof.Rows.lt_int h : wpAny (model prog w) A (compareOp .Lt (.int a t) (.int c u)) Q E s)

section
open PySem.SeqAt
open PySem.AutoSeq1 (wpAny_loadPart')
open PySem.MeetsSeq PySem.MeetsSeq2 PySem.MeetsSeq3

theorem tuple_lt_ints (l b : Addr) (items items2 : Array Value) (n n2 : Nat) (dd dd2 : Option Addr) (sl sl2 : Array (Option Value)) (ns ms : List Int) (hi : IntsAre items.toList ns) (hj : IntsAre items2.toList ms) :
    Meets (Builtin.«tuple.__lt__» ⟨[.ref l, .ref b], []⟩)
      (fun _ R s => s.heap.get? l = some { cls := .type "tuple", dict := dd, data := .seq items n, slots := sl } ∧ s.heap.get? b = some { cls := .type "tuple", dict := dd2, data := .seq items2 n2, slots := sl2 } ∧
        R (.ok (.ret (.bool (lexLt ns ms)))) s) :=
  .of_wp fun prog w A R s h => by
    obtain ⟨hp, g, d, tk, os⟩ := s; obtain ⟨hl, hb, h⟩ := h
    have f2 := AutoSeq1.sub_tuple_tuple
    have z1 : items.size = ns.length := by rw [← hi.length]; simp
    have z2 : items2.size = ms.length := by rw [← hj.length]; simp
    wp_walk using wpAny_loadPart' hl, wpAny_loadPart' hb, wpAny_forIn_list _ (fun rest b s' => b.1 = none ∧ s' = ⟨hp, g, d, tk, os⟩ ∧ ∃ (vs ws : List Value) (ns' ms' : List Int), rest = vs.zip ws ∧
      IntsAre vs ns' ∧ IntsAre ws ms' ∧ ns'.length + items2.size = ms'.length + items.size ∧ R (.ok (.ret (.bool (lexLt ns' ms')))) ⟨hp, g, d, tk, os⟩) _
    case turn =>
      rintro ⟨y, x⟩ rest b s' ⟨hb', rfl, vs, ws, ns', ms', hz, hvi, hwi, hlen, hR⟩
      cases hvi with
      | nil => rw [List.zip_nil_left] at hz; cases hz
      | cons a t hvi' =>
        cases hwi with
        | nil => rw [List.zip_nil_right] at hz; cases hz
        | cons c u hwi' =>
          rw [List.zip_cons_cons] at hz
          injection hz with hyx hrest
          injection hyx with hy hx
          subst hy hx
          rw [lexLt_cons] at hR
          simp only [List.length_cons] at hlen
          obtain ⟨e, he, hiff⟩ := eqAt_int A.in1 ⟨hp, g, d, tk, os⟩ a t c u
          refine wpAny_bind (he prog w _ _ ?_)
          cases e with
          | true =>
            rw [if_pos (hiff.mp rfl)] at hR
            wp_walk
            exact ⟨rfl, rfl, _, _, _, _, hrest, hvi', hwi', by omega, hR⟩
          | false =>
            rw [if_neg (fun q => absurd (hiff.mpr q) Bool.false_ne_true)] at hR
            have hri := rcLt_int A.in1 ⟨hp, g, d, tk, os⟩ a t c u prog w
            wp_walk using hri
            exact ⟨_, rfl, by simpa using hR⟩
    case fin =>
      rintro ⟨b1, b2⟩ s' ⟨hb', rfl, vs, ws, ns', ms', hz, hvi, hwi, hlen, hR⟩
      simp only at hb'
      subst hb'
      have hv : lexLt ns' ms' = decide (items.size < items2.size) := by
        cases hvi with
        | nil =>
          cases hwi with
          | nil =>
            simp only [List.length_nil] at hlen
            rw [lexLt_nil_nil]
            exact (decide_eq_false (by omega)).symm
          | cons c u hw =>
            simp only [List.length_nil, List.length_cons] at hlen
            rw [lexLt_nil_cons]
            exact (decide_eq_true (by omega)).symm
        | cons a t hv =>
          cases hwi with
          | nil =>
            simp only [List.length_nil, List.length_cons] at hlen
            rw [lexLt_cons_nil]
            exact (decide_eq_false (by omega)).symm
          | cons c u hw =>
            rw [List.zip_cons_cons] at hz
            cases hz
      rw [hv] at hR
      wp_walk
      exact ⟨_, rfl, by simpa [Builtin.Tuple.tupleCompareSizes] using hR⟩
    case h =>
      exact ⟨rfl, rfl, items.toList, items2.toList, ns, ms, rfl, hi, hj, by omega, h⟩
end

section
variable {prog : Program} {w : World} {A : Around} {E : Value → Shared → Prop} {s : Shared}

theorem lt_tupInts {l b : Addr} {items items2 : Array Value} {ns ms : List Int} {Q : Value → Shared → Prop} (hl : IsTup s.heap l items) (hb : IsTup s.heap b items2) (hi : IntsAre items.toList ns) (hj : IntsAre items2.toList ms)
    (hu : A.units < cLine) (h : Q (.bool (lexLt ns ms)) s) : wpAny (model prog w) A (compareOp .Lt (.ref l) (.ref b)) Q E s := by
  obtain ⟨⟨cls, dd, data, sl⟩, ho, hc, n, hd⟩ := id hl
  obtain ⟨⟨cls2, dd2, data2, sl2⟩, ho2, hc2, n2, hd2⟩ := id hb
  simp only at hc hd hc2 hd2
  subst hc hd hc2 hd2
  exact richCompare_meets_room (op := .Lt) ⟨_, ho, rfl⟩ ⟨_, ho2, rfl⟩ PySem.F.slot_tuple_lt PySem.F.entry_tuple_lt (PySem.F.args_tuple_lt_2 _ _) (tuple_lt_ints l b items items2 n n2 dd dd2 sl sl2 ns ms hi hj)
    ⟨ho, ho2, show Value.bool (lexLt ns ms) ≠ Value.notImplemented ∧ Q (.bool (lexLt ns ms)) s from ⟨(fun x => nomatch x), h⟩⟩ hu

/-- t + u, t not empty -/
theorem cat_tup {t b : Addr} {vs ws : List Value} {Q : Value → Shared → Prop} (ht : IsTup s.heap t vs.toArray) (hb : IsTup s.heap b ws.toArray) (hv : vs ≠ [])
    (h1 : ws = [] → Q (.ref t) s) (h2 : ws ≠ [] → Q (.ref s.heap.objs.size) { s with heap := s.heap.push { cls := .type "tuple", data := .seq (vs ++ ws).toArray } })
    (hsz : vs.length + ws.length ≤ sizeLine) : wpAny (model prog w) A (binaryOp .Add (.ref t) (.ref b)) Q E s := by
  obtain ⟨⟨cls, dd, data, sl⟩, ho, hc, n, hd⟩ := id ht
  obtain ⟨⟨cls2, dd2, data2, sl2⟩, ho2, hc2, n2, hd2⟩ := id hb
  simp only at hc hd hc2 hd2
  subst hc hd hc2 hd2
  have e : vs.toArray ++ ws.toArray = (vs ++ ws).toArray := by simp
  by_cases hw : ws = []
  · exact concat_meets ⟨_, ho, rfl⟩ ⟨_, ho2, rfl⟩ noFill_tuple_add seq_tuple_add PySem.F.slot_tuple_add PySem.F.entry_tuple_add (PySem.F.args_tuple_add_2 _ _)
      (tuple_addW1 t b vs.toArray ws.toArray n n2 dd dd2 sl sl2 (by simpa using hv) (by simp [hw])) ⟨ho, ho2, h1 hw⟩
  · refine concat_meets ⟨_, ho, rfl⟩ ⟨_, ho2, rfl⟩ noFill_tuple_add seq_tuple_add PySem.F.slot_tuple_add PySem.F.entry_tuple_add (PySem.F.args_tuple_add_2 _ _)
      (tuple_addW2 t b vs.toArray ws.toArray n n2 dd dd2 sl sl2 (by simpa using hv) (by simpa using hw) (by rw [List.size_toArray, List.size_toArray]; exact hsz)) ⟨ho, ho2, ?_⟩
    rw [e]
    exact h2 hw

/-! ### t[a:b], not the whole -/
/-- a slice's bound as a place among n (d where it is left out) -/
def sIx (n d : Nat) : Option Int → Nat
  | none => d
  | some v => if v < 0 then (v + (n : Int)).toNat else min v.toNat n
theorem sIx_none (n d : Nat) : sIx n d none = d := rfl
theorem sIx_nat (n d k : Nat) : sIx n d (some (k : Int)) = min k n := by
  show (if (k : Int) < 0 then ((k : Int) + (n : Int)).toNat else min (k : Int).toNat n) = min k n
  rw [if_neg (by omega), Int.toNat_natCast]
theorem sIx_le (n d : Nat) (hd : d ≤ n) (o : Option Int) : sIx n d o ≤ n := by
  cases o with
  | none => exact hd
  | some v =>
    show (if v < 0 then (v + (n : Int)).toNat else min v.toNat n) ≤ n
    by_cases hv : v < 0
    · rw [if_pos hv]; omega
    · rw [if_neg hv]; exact Nat.min_le_right _ _
theorem clip_eq (v : Int) (n d : Nat) : (if v < 0 then max (v + (n : Int)) 0 else min v (n : Int)) = ((sIx n d (some v) : Nat) : Int) := by
  show (if v < 0 then max (v + (n : Int)) 0 else min v (n : Int)) = (((if v < 0 then (v + (n : Int)).toNat else min v.toNat n) : Nat) : Int)
  by_cases hv : v < 0
  · simp only [if_pos hv]; omega
  · simp only [if_neg hv]; omega
theorem adjust_gen (lo hi : Option Int) (n : Nat) : Builtin.Slice.sliceAdjust lo hi 1 (n : Int) = (((sIx n 0 lo : Nat) : Int), ((sIx n n hi : Nat) : Int)) := by
  have h1 : ¬ ((1 : Int) < 0) := by omega
  unfold Builtin.Slice.sliceAdjust
  simp only [h1, if_false]
  refine Prod.ext ?_ ?_
  · cases lo with
    | none => rfl
    | some v => exact clip_eq v n 0
  · cases hi with
    | none => rfl
    | some v => exact clip_eq v n n
theorem places_gen (i j : Nat) : Builtin.Slice.slicePlaces (i : Int) (j : Int) 1 = j - i := by
  unfold Builtin.Slice.slicePlaces
  have h1 : (1 : Int) > 0 := by omega
  simp only [h1, if_true, Int.ediv_one]
  split <;> omega
theorem slicePart_ {v : Value} {o : Option Int} {Q : Option Int → Shared → Prop} (p : IsPart v o) (h : Q o s) : wpAny (model prog w) A (Builtin.Slice.slicePartIndex v) Q E s := by
  cases p with
  | none => exact slicePart_none h
  | int i t => exact slicePart_int h
theorem sliceApplied_gen {sl : Addr} {vl vu : Value} {lo hi : Option Int} {n : Nat} {Q : Int × Int × Nat → Shared → Prop} (hs : s.heap.IsSliceOf sl vl vu .none) (pl : IsPart vl lo) (pu : IsPart vu hi)
    (h : Q (((sIx n 0 lo : Nat) : Int), 1, sIx n n hi - sIx n 0 lo) s) : wpAny (model prog w) A (Builtin.Slice.sliceApplied (.ref sl) (pure (n : Int))) Q E s := by
  obtain ⟨os, hos, hcs, hds⟩ := id hs
  unfold Builtin.Slice.sliceApplied Builtin.Slice.sliceFields
  refine wpAny_bind (wpAny_bind (wpAny_field hos hds (x := vl) rfl (wpAny_bind (wpAny_field hos hds (x := vu) rfl (wpAny_bind (wpAny_field hos hds (x := .none) rfl (wpAny_pure ?_)))))))
  refine wpAny_bind (slicePart_none ?_)
  show wpAny _ _ (if ((1 : Int) == 0) = true then _ else _) _ _ s
  rw [if_neg (by decide)]
  refine wpAny_bind (slicePart_ pl (wpAny_bind (slicePart_ pu (wpAny_bind (wpAny_pure ?_)))))
  show wpAny _ _ (match Builtin.Slice.sliceAdjust lo hi 1 (n : Int) with | (lo, hi) => pure (lo, (1 : Int), Builtin.Slice.slicePlaces lo hi 1)) _ _ s
  rw [adjust_gen lo hi n]
  show wpAny _ _ (pure (((sIx n 0 lo : Nat) : Int), (1 : Int), Builtin.Slice.slicePlaces ((sIx n 0 lo : Nat) : Int) ((sIx n n hi : Nat) : Int) 1)) _ _ s
  rw [places_gen]
  exact wpAny_pure h
theorem pick_gen (xs : Array Value) (i k : Nat) : ((List.range k).filterMap fun (m : Nat) => xs[((i : Int) + (m : Int) * 1).toNat]?).toArray = ((xs.toList.drop i).take k).toArray := by
  have e : (fun (m : Nat) => xs[((i : Int) + (m : Int) * 1).toNat]?) = fun m => xs[i + m]? := by
    funext m
    have : ((i : Int) + (m : Int) * 1).toNat = i + m := by omega
    rw [this]
  rw [e]
  have := pick_run xs i k
  rw [List.filterMap_map] at this
  have e2 : ((fun x => xs[x]?) ∘ fun x => i + x) = fun m => xs[i + m]? := rfl
  rw [e2] at this
  rw [this]

theorem getItem_tuple_cut {t sl : Addr} {items : Array Value} {vl vu : Value} {lo hi : Option Int} {Q : Value → Shared → Prop} (ht : IsTup s.heap t items) (hs : s.heap.IsSliceOf sl vl vu .none) (pl : IsPart vl lo) (pu : IsPart vu hi)
    (hw : ¬ (sIx items.size 0 lo = 0 ∧ sIx items.size items.size hi = items.size))
    (h : Q (.ref s.heap.objs.size) { s with heap := s.heap.push { cls := .type "tuple", data := .seq ((items.toList.drop (sIx items.size 0 lo)).take (sIx items.size items.size hi - sIx items.size 0 lo)).toArray } })
    (hsz : items.size ≤ sizeLine) : wpAny (model prog w) A (getItem (.ref t) (.ref sl)) Q E s := by
  have htake : sizeOk (.seq ((items.toList.drop (sIx items.size 0 lo)).take (sIx items.size items.size hi - sIx items.size 0 lo)).toArray) := by
    show ((items.toList.drop (sIx items.size 0 lo)).take (sIx items.size items.size hi - sIx items.size 0 lo)).toArray.size ≤ sizeLine
    rw [List.size_toArray, List.length_take, List.length_drop, Array.length_toList]
    omega
  have hj : sIx items.size items.size hi ≤ items.size := sIx_le _ _ (Nat.le_refl _) hi
  obtain ⟨os, hos, hcs, hds⟩ := id hs
  have hTs : s.TypeIs (.ref sl) "slice" := ⟨os, hos, hcs⟩
  unfold getItem
  try with_reducible refine wpAny_holding ?_
  first | refine wpAny_bind (wpAny_pure ?_) | skip
  refine wpAny_bind (wpAny_sequenceKey ht.typeIs (by decide) ?_)
  refine wpAny_bind (wpAny_callSpecial?_slot (name := Str.ofString "__getitem__") ht.typeIs PyProof.Rows.slot_tuple_getitem
    (wpAny_call_entry PyProof.Rows.slot_tuple_getitem ht.typeIs entry_tuple_getitem ?_ (args_tuple_getitem _ _)))
  show wpAny _ _ (Builtin.Tuple.tupleItemsOf (.ref t) >>= _) _ _ s
  refine wpAny_bind (tupleItemsOf_ ht ?_)
  refine wpAny_bind (wpAny_typeOf hTs ?_)
  rw [if_pos (by decide)]
  refine wpAny_bind (sliceApplied_gen hs pl pu ?_)
  have hno : ¬ ((((sIx items.size 0 lo : Nat) : Int) == 0 && (1 : Int) == 1 && (sIx items.size items.size hi - sIx items.size 0 lo) == items.size) = true) := by
    intro q
    rw [Bool.and_eq_true, Bool.and_eq_true] at q
    have q1 : ((sIx items.size 0 lo : Nat) : Int) = 0 := eq_of_beq q.1.1
    have q2 : sIx items.size items.size hi - sIx items.size 0 lo = items.size := eq_of_beq q.2
    exact hw ⟨by omega, by omega⟩
  show wpAny _ _ (if (((sIx items.size 0 lo : Nat) : Int) == 0 && (1 : Int) == 1 && (sIx items.size items.size hi - sIx items.size 0 lo) == items.size) = true then _ else _) _ _ s
  rw [if_neg hno, pick_gen]
  first
    | exact wpAny_bind (m := Builtin.Tuple.tupleExact _) (wpAny_newObj_type (wpAny_pure ⟨_, rfl, wpAny_pure h⟩) htake)
    | exact wpAny_bind (m := Builtin.Tuple.tupleExact _) (wpAny_newObj_type (wpAny_bind (wpAny_pure (wpAny_pure ⟨_, rfl, wpAny_pure h⟩))) htake)
    | exact wpAny_bind (wpAny_bind (m := Builtin.Tuple.tupleExact _) (wpAny_newObj_type (wpAny_pure (wpAny_pure ⟨_, rfl, wpAny_pure h⟩)) htake))
    | exact wpAny_bind (wpAny_bind (m := Builtin.Tuple.tupleExact _) (wpAny_newObj_type (wpAny_pure ⟨_, rfl, wpAny_pure h⟩) htake))
end
end HT

namespace L2
open PySem PySem.Spec PyProof.Rows

/-! ### the parts of a slice -/
abbrev TO := St → Hp → (Option Int → Hp → Prop) → Prop
/-- a slice's part (left out, or an int) -/
def PO (X : Cx) (e : Option Expr) (t : TO) : Prop :=
  ∀ (pins : List (Addr × Obj)) (s : Shared) (σ : St) (H : Hp) (Q : Option Int → Hp → Prop), Inv X pins σ H s → t σ H Q →
    wpAny (model X.prog X.w) X.A (evalPart e X.env) (fun u s' => ∃ o H', Inv X pins σ H' s' ∧ IsPart u o ∧ Q o H') X.xe s
def tNoPart : TO := fun _ H Q => Q none H
def tPart (t : TE) : TO := fun σ H Q => t σ H fun x H1 => ∃ i, x = .int i ∧ Q (some i) H1

theorem intsAre_of {ns : List Int} : ∀ {us : List Value}, Vals (ns.map V.int) us → IntsAre us ns := by
  induction ns with
  | nil => intro us r; rw [List.map_nil] at r; cases r; exact .nil
  | cons n ns ih =>
    intro us r
    rw [List.map_cons] at r
    cases r with
    | cons r1 r2 =>
      obtain ⟨t, e⟩ := r1
      subst e
      exact .cons n t (ih r2)

section
variable {X : Cx} {e : Expr} {te : TE} {lo hi : Option Expr} {tl th : TO} {pos p2 : Pos}

theorem po_none : PO X none tNoPart := by
  intro pins s σ H Q I h
  rw [evalPart_none]
  exact wpAny_pure ⟨none, H, I, .none, h⟩
theorem po_some (h : PE X e te) : PO X (some e) (tPart te) := by
  intro pins s σ H Q I hw
  rw [evalPart_some]
  refine thn (h pins s σ H _ I hw) fun u s1 ⟨x, H1, I1, r1, q1⟩ => ?_
  obtain ⟨i, rfl, q⟩ := q1
  obtain ⟨t, rfl⟩ := r1
  exact ⟨some i, H1, I1, .int i t, q⟩

/-- what a slice of a value is, by values: the slice object stands at sl -/
def SlR (X : Cx) (r : V → Option Int → Option Int → Hp → VK → Prop) : Prop :=
  ∀ (pins : List (Addr × Obj)) (s : Shared) (σ : St) (H : Hp) (x : V) (v vl vu : Value) (lo hi : Option Int) (sl : Addr) (Q : VK), Inv X pins σ H s → RelV x v → s.heap.IsSliceOf sl vl vu .none → IsPart vl lo → IsPart vu hi → r x lo hi H Q →
    ∃ T id, typeLookup (.type T) "__getitem__" = pure (some (.builtin id)) ∧ s.TypeIs v T ∧ wpAny (model X.prog X.w) X.A (getItem v (.ref sl)) (EP X pins σ Q) X.xe s
theorem SlR.or {r r' : V → Option Int → Option Int → Hp → VK → Prop} (h : SlR X r) (h' : SlR X r') : SlR X (fun x lo hi H Q => r x lo hi H Q ∨ r' x lo hi H Q) := by
  intro pins s σ H x v vl vu lo hi sl Q I rx hs pl pu q
  rcases q with q | q
  · exact h pins s σ H x v vl vu lo hi sl Q I rx hs pl pu q
  · exact h' pins s σ H x v vl vu lo hi sl Q I rx hs pl pu q
def tSl (r : V → Option Int → Option Int → Hp → VK → Prop) (te : TE) (tl th : TO) : TE := fun σ H Q => te σ H fun x H1 => tl σ H1 fun l H2 => th σ H2 fun u H3 => r x l u H3 Q
/-- a[lo:hi], any a -/
theorem pe_slice {r : V → Option Int → Option Int → Hp → VK → Prop} (hr : SlR X r) (he : PE X e te) (hl : PO X lo tl) (hu : PO X hi th) : PE X (.Subscript e (.Slice lo hi none p2) pos) (tSl r te tl th) := by
  intro pins s σ H Q I h
  refine Subscript_ (thn (he pins s σ H _ I h) fun v s1 ⟨x, H1, I1, r1, q1⟩ => ?_)
  refine wpAny_Slice (thn (hl pins s1 σ H1 _ I1 q1) fun vl s2 ⟨l, H2, I2, pl, q2⟩ => thn (hu pins s2 σ H2 _ I2 q2) fun vu s3 ⟨u, H3, I3, pu, q3⟩ => ?_)
  rw [evalPart_none]
  refine wpAny_pure ?_
  have I4 : Inv X pins σ H3 { s3 with heap := s3.heap.push { cls := .type "slice", data := .fields #[vl, vu, .none] } } := I3.kept (t' := s3.toks) fun b ob q => Heap.get?_push_of_some _ q
  obtain ⟨T, id, hT, ht, hg⟩ := hr pins { s3 with heap := s3.heap.push { cls := .type "slice", data := .fields #[vl, vu, .none] } } σ H3 x v vl vu l u s3.heap.objs.size Q I4 r1 (Heap.IsSliceOf.new ..) pl pu q3
  show wpAny (model X.prog X.w) X.A (subscriptTail e (.Slice lo hi none p2) v (.ref s3.heap.objs.size)) (EP X pins σ Q) X.xe { s3 with heap := s3.heap.push { cls := .type "slice", data := .fields #[vl, vu, .none] } }
  exact tail_any (ops := [.ref s3.heap.objs.size, v]) ht hT hg (by with_unfolding_all rfl)

/-- the items of xs[lo:hi] -/
def cutV (xs : List V) (lo hi : Option Int) : List V := (xs.drop (HT.sIx xs.length 0 lo)).take (HT.sIx xs.length xs.length hi - HT.sIx xs.length 0 lo)
theorem cutV_length (xs : List V) (lo hi : Option Int) : (cutV xs lo hi).length ≤ xs.length := by
  unfold cutV
  rw [List.length_take, List.length_drop]
  omega
/-- t[lo:hi], not the whole of it (the whole would be t itself) -/
def rSlT (K : PySem.W.Frag) : V → Option Int → Option Int → Hp → VK → Prop := fun x lo hi H Q => ∃ a xs, x = .ref a ∧ SqT K H a xs ∧
  ¬ (HT.sIx xs.length 0 lo = 0 ∧ HT.sIx xs.length xs.length hi = xs.length) ∧ ∀ p, H p = none → Q (.ref p) (upd H p (.tup (cutV xs lo hi)))
theorem sl_tup : SlR X (rSlT X.K) := by
  intro pins s σ H x v vl vu lo hi sl Q I rx hs pl pu h
  obtain ⟨a, xs, rfl, hx, hw, q⟩ := h
  cases rx
  obtain ⟨its, r, ht, hz⟩ := I.tuple hx
  have hlen : its.toArray.size = xs.length := by rw [List.size_toArray]; exact r.length.symm
  refine ⟨"tuple", _, PyProof.Rows.slot_tuple_getitem.lookup, ht.typeIs, ?_⟩
  refine HT.getItem_tuple_cut ht hs pl pu (by rw [hlen]; exact hw) ?_ (by rw [hlen]; exact hz)
  rw [hlen]
  refine ⟨.ref s.heap.objs.size, _, I.laid (t' := s.toks) (o := .tup (cutV xs lo hi)) (fun b ob q => Heap.get?_push_of_some _ q) (Nat.le_refl _) ?_, rfl, q _ (I.hok.fresh (Nat.le_refl _))⟩
  exact ⟨Nat.le_trans (cutV_length xs lo hi) hz, _, (r.drop (HT.sIx xs.length 0 lo)).take (HT.sIx xs.length xs.length hi - HT.sIx xs.length 0 lo), IsTup.new _ _⟩

/-! ### t < u, t + u -/
def rLtT (K : PySem.W.Frag) : R2 := fun x y H Q => ∃ a b ns ms, x = .ref a ∧ y = .ref b ∧ SqT K H a (ns.map V.int) ∧ SqT K H b (ms.map V.int) ∧ Q (.bl (HT.lexLt ns ms)) H
theorem op_ltT (hu : X.A.units < cLine) : OpR X (compareOp .Lt) (rLtT X.K) := by
  intro pins s σ H x y v u Q I rx ry h
  obtain ⟨a, b, ns, ms, rfl, rfl, ha, hb, q⟩ := h
  cases rx
  cases ry
  obtain ⟨its, r1, p1, _⟩ := I.tuple ha
  obtain ⟨its2, r2, p2, _⟩ := I.tuple hb
  have i1 : IntsAre its.toArray.toList ns := intsAre_of r1
  have i2 : IntsAre its2.toArray.toList ms := intsAre_of r2
  exact HT.lt_tupInts p1 p2 i1 i2 hu ⟨.bl (HT.lexLt ns ms), H, I, rfl, q⟩
/-- t + u, t not empty: u empty gives t itself -/
def rCatT (K : PySem.W.Frag) : R2 := fun x y H Q => ∃ a b xs ys, x = .ref a ∧ y = .ref b ∧ SqT K H a xs ∧ SqT K H b ys ∧ xs ≠ [] ∧ xs.length + ys.length ≤ sizeLine ∧
  (ys = [] → Q (.ref a) H) ∧ (ys ≠ [] → ∀ p, H p = none → Q (.ref p) (upd H p (.tup (xs ++ ys))))
theorem Vals.nil_iff {xs : List V} {us : List Value} (r : Vals xs us) : us = [] ↔ xs = [] := by
  cases r with
  | nil => simp
  | cons _ _ => simp
theorem op_catT : OpR X (binaryOp .Add) (rCatT X.K) := by
  intro pins s σ H x y v u Q I rx ry h
  obtain ⟨a, b, xs, ys, rfl, rfl, ha, hb, hx, hz, q1, q2⟩ := h
  cases rx
  cases ry
  obtain ⟨its, r1, p1, _⟩ := I.tuple ha
  obtain ⟨its2, r2, p2, _⟩ := I.tuple hb
  refine HT.cat_tup p1 p2 (fun z => hx (r1.nil_iff.mp z)) (fun z => ⟨.ref a, H, I, rfl, q1 (r2.nil_iff.mp z)⟩) (fun z => ?_) (by rw [← r1.length, ← r2.length]; exact hz)
  refine ⟨.ref s.heap.objs.size, _, I.laid (t' := s.toks) (o := .tup (xs ++ ys)) (fun b ob q => Heap.get?_push_of_some _ q) (Nat.le_refl _) ?_, rfl, q2 (fun w => z (r2.nil_iff.mpr w)) _ (I.hok.fresh (Nat.le_refl _))⟩
  exact ⟨by rw [List.length_append]; exact hz, _, r1.append r2, IsTup.new _ _⟩
/-- tuple(t) -/
theorem call_tupleT : CallR X (.type "tuple") (fun xs H Q => ∃ a ys, xs = [.ref a] ∧ SqT X.K H a ys ∧ Q (.ref a) H) := by
  intro pins s σ H xs us Q I r h
  obtain ⟨a, ys, rfl, ha, q⟩ := h
  obtain ⟨u, rfl, ru⟩ := vals1 r
  cases ru
  obtain ⟨its, _, p1, _⟩ := I.tuple ha
  exact call_tuple_same (items := its.toArray) p1 ⟨.ref a, H, I, rfl, q⟩
end
end L2

namespace L2
open PySem PySem.Spec PyProof.Rows

/-! ### places -/
/-- the place that an index of any sign means -/
def ixN (n : Nat) (i : Int) : Option Nat := if 0 ≤ i then (if i < n then some i.toNat else none) else if -(n : Int) ≤ i then some (i + n).toNat else none
def atI {α : Type} (xs : List α) (i : Int) : Option α := (ixN xs.length i).bind fun j => xs[j]?
theorem ixN_seq {n : Nat} {i : Int} {j : Nat} (h : ixN n i = some j) : seqIndex? i n = some j ∧ j < n ∧ -(n : Int) ≤ i ∧ i < n := by
  unfold ixN at h
  by_cases h0 : 0 ≤ i
  · rw [if_pos h0] at h
    by_cases h1 : i < n
    · rw [if_pos h1] at h
      have e : i.toNat = j := Option.some.inj h
      exact ⟨by rw [seqIndex_of h0 h1, e], by omega, by omega, h1⟩
    · rw [if_neg h1] at h; cases h
  · rw [if_neg h0] at h
    by_cases h1 : -(n : Int) ≤ i
    · rw [if_pos h1] at h
      have e : (i + n).toNat = j := Option.some.inj h
      exact ⟨by rw [seqIndex_neg (by omega) h1, e], by omega, h1, by omega⟩
    · rw [if_neg h1] at h; cases h
theorem atI_get {α : Type} {xs : List α} {i : Int} {v : α} (h : atI xs i = some v) : ∃ j, seqIndex? i xs.length = some j ∧ xs[j]? = some v ∧ j < xs.length ∧ -(xs.length : Int) ≤ i ∧ i < xs.length := by
  unfold atI at h
  cases e : ixN xs.length i with
  | none => rw [e] at h; cases h
  | some j =>
    rw [e] at h
    obtain ⟨h1, h2, h3, h4⟩ := ixN_seq e
    exact ⟨j, h1, h, h2, h3, h4⟩
theorem atI_nat {α : Type} {xs : List α} {j : Nat} {v : α} (h : xs[j]? = some v) : atI xs (j : Int) = some v := by
  have hj : j < xs.length := (List.getElem?_eq_some_iff.mp h).1
  have e : ixN xs.length (j : Int) = some j := by
    unfold ixN
    rw [if_pos (by omega), if_pos (by omega)]; simp
  unfold atI; rw [e]; exact h
theorem atI_last {α : Type} (xs : List α) (v : α) : atI (xs ++ [v]) (-1) = some v := by
  have hl : (xs ++ [v]).length = xs.length + 1 := by simp
  have e : ixN (xs ++ [v]).length (-1) = some xs.length := by
    unfold ixN
    rw [hl, if_neg (by decide), if_pos (by omega)]
    congr 1
    omega
  unfold atI
  rw [e]
  show (xs ++ [v])[xs.length]? = some v
  simp

/-! ### what may be subscripted -/
/-- what stands as an index of a plain subscript -/
def PlainIx (b : Expr) : Prop := ∀ o i, subscripted b false o i = operate [o, i] (getItem o i)
/-- a subscript by values -/
def IxR (X : Cx) (r : R2) : Prop :=
  ∀ (value slice : Expr) (pins : List (Addr × Obj)) (s : Shared) (σ : St) (H : Hp) (x y : V) (v u : Value) (Q : VK), Inv X pins σ H s → RelV x v → RelV y u → r x y H Q →
    subscripted slice false v u = operate [v, u] (getItem v u) → wpAny (model X.prog X.w) X.A (subscriptTail value slice v u) (EP X pins σ Q) X.xe s
/-- a call of a builtin's method by values: the receiver, the arguments -/
def MtR (X : Cx) (id : String) (r : V → List V → Hp → VK → Prop) : Prop :=
  ∀ (pins : List (Addr × Obj)) (s : Shared) (σ : St) (H : Hp) (x : V) (xs : List V) (v : Value) (us : List Value) (Q : VK), Inv X pins σ H s → RelV x v → Vals xs us → r x xs H Q →
    wpAny (model X.prog X.w) X.A (call (.builtin id) (v :: us)) (EP X pins σ Q) X.xe s
section
variable {X : Cx} {a b : Expr} {ta tb : TE} {pos : Pos}
theorem IxR.or {r r' : R2} (h : IxR X r) (h' : IxR X r') : IxR X (fun x y H Q => r x y H Q ∨ r' x y H Q) := by
  intro value slice pins s σ H x y v u Q I rx ry q hs
  rcases q with q | q
  · exact h value slice pins s σ H x y v u Q I rx ry q hs
  · exact h' value slice pins s σ H x y v u Q I rx ry q hs
theorem MtR.or {id : String} {r r' : V → List V → Hp → VK → Prop} (h : MtR X id r) (h' : MtR X id r') : MtR X id (fun x xs H Q => r x xs H Q ∨ r' x xs H Q) := by
  intro pins s σ H x xs v us Q I rx rs q
  rcases q with q | q
  · exact h pins s σ H x xs v us Q I rx rs q
  · exact h' pins s σ H x xs v us Q I rx rs q
/-- a[b] -/
theorem pe_ix {r : R2} (hr : IxR X r) (ha : PE X a ta) (hb : PE X b tb) (hs : PlainIx b) : PE X (.Subscript a b pos) (tOp r ta tb) := by
  intro pins s σ H Q I h
  exact Subscript_ (binT ha hb I h fun v u s2 x y H2 I2 rx ry q => hr a b pins s2 σ H2 x y v u Q I2 rx ry q (hs _ _))

def rIxL (K : PySem.W.Frag) : R2 := fun x y H Q => ∃ p xs i v, x = .ref p ∧ y = .int i ∧ SqL K H p xs ∧ atI xs i = some v ∧ Q v H
def rIxT (K : PySem.W.Frag) : R2 := fun x y H Q => ∃ p xs i v, x = .ref p ∧ y = .int i ∧ SqT K H p xs ∧ atI xs i = some v ∧ Q v H
def rIxS : R2 := fun x y H Q => ∃ z i c, x = .str z ∧ y = .int i ∧ z.length ≤ sizeLine ∧ atI z.cps.toList i = some c ∧ Q (.str ⟨#[c]⟩) H
theorem ix_list : IxR X (rIxL X.K) := by
  intro value slice pins s σ H x y v u Q I rx ry h hs
  obtain ⟨p, xs, i, z, rfl, rfl, hq, he, q⟩ := h
  cases rx
  obtain ⟨t, rfl⟩ := ry
  obtain ⟨its, r, pl, hz⟩ := I.list hq
  obtain ⟨j, h1, h2, h3, h4, h5⟩ := atI_get he
  obtain ⟨w, ew, rw'⟩ := r.get h2
  have hl := r.length
  have hn := line63
  have fin : EP X pins σ Q w s := ⟨z, H, I, rw', q⟩
  by_cases h0 : 0 ≤ i
  · have hj : i.toNat = j := by
      rw [seqIndex_of h0 h5] at h1
      exact Option.some.inj h1
    exact item_listR pl.isList h0 (by omega) (by rw [hj]; simpa using ew) fin hs
  · have hj : (i + (its.toArray.size : Int)).toNat = j := by
      rw [seqIndex_neg (by omega) h4] at h1
      rw [List.size_toArray, ← hl]
      exact Option.some.inj h1
    exact subscriptTail_builtinR (x := w) pl.isList.typeIs slot_list_getitem.lookup
      (wpAny_getItem_list_neg (Q := fun r s' => r = w ∧ EP X pins σ Q r s') pl.isList (by omega) (by rw [List.size_toArray] <;> omega) (by omega) (by rw [hj]; simpa using ew) ⟨rfl, fin⟩) hs
theorem ix_tup : IxR X (rIxT X.K) := by
  intro value slice pins s σ H x y v u Q I rx ry h hs
  obtain ⟨p, xs, i, z, rfl, rfl, hq, he, q⟩ := h
  cases rx
  obtain ⟨t, rfl⟩ := ry
  obtain ⟨its, r, pl, hz⟩ := I.tuple hq
  obtain ⟨j, h1, h2, h3, h4, h5⟩ := atI_get he
  obtain ⟨w, ew, rw'⟩ := r.get h2
  have hl := r.length
  have hn := line63
  have fin : EP X pins σ Q w s := ⟨z, H, I, rw', q⟩
  exact subscriptTail_builtinR (x := w) pl.typeIs slot_tuple_getitem.lookup
    (getItem_tuple (j := j) (Q := fun r s' => r = w ∧ EP X pins σ Q r s') pl (by omega) (by omega) (by rw [List.size_toArray, ← hl]; exact h1) (by simpa using ew) ⟨rfl, fin⟩) hs
theorem ix_str : IxR X rIxS := by
  intro value slice pins s σ H x y v u Q I rx ry h hs
  obtain ⟨z, i, c, rfl, rfl, hz, he, q⟩ := h
  obtain ⟨t, rfl⟩ := rx
  obtain ⟨t', rfl⟩ := ry
  obtain ⟨j, h1, h2, h3, h4, h5⟩ := atI_get he
  have hl : z.cps.toList.length = z.length := by simp [Str.length]
  rw [hl] at h1 h4 h5
  have hn := line63
  exact tail_any (typeIs_str s z t) slot_str_getitem.lookup (getItem_str (c := c) (by
    have e1 : decide (i < -(2 ^ 63 : Int)) = false := decide_eq_false (by omega)
    have e2 : decide (i ≥ 2 ^ 63) = false := decide_eq_false (by omega)
    rw [e1, e2, Bool.or_false]) (by rw [h1]; simpa using h2) ⟨.str ⟨#[c]⟩, H, I.tok _, ⟨_, rfl⟩, q⟩) hs
/-- list, tuple or str -/
def rIx (K : PySem.W.Frag) : R2 := fun x y H Q => rIxL K x y H Q ∨ rIxT K x y H Q ∨ rIxS x y H Q
theorem ix_seq : IxR X (rIx X.K) := ix_list.or (ix_tup.or ix_str)

/-! ### xs[i] = v, any sign -/
/-- the list's object behind a store -/
theorem mapSeq_set (its : List Value) (n j : Nat) (u : Value) : Obj.mapSeq (·.setIfInBounds j u) { cls := .type "list", data := .seq its.toArray n } = { cls := .type "list", data := .seq (its.set j u).toArray n } := by
  simp [Obj.mapSeq]
theorem Inv.lst {pins : List (Addr × Obj)} {σ : St} {H : Hp} {s : Shared} {p : Addr} {xs : List V} (I : Inv X pins σ H s) (h : H p = some (.lst xs)) :
    ∃ (its : List Value) (n : Nat), Vals xs its ∧ s.heap.get? p = some { cls := .type "list", data := .seq its.toArray n } ∧ xs.length ≤ sizeLine := by
  obtain ⟨z, its, n, r, e⟩ := I.hok p _ h
  exact ⟨its, n, r, e, z⟩
/-- the list at p is written by an update of its object -/
theorem Inv.lstUpd {pins : List (Addr × Obj)} {σ : St} {H : Hp} {s : Shared} {p : Addr} {xs ys : List V} {its its' : List Value} {n n' : Nat} {f : Obj → Obj} (I : Inv X pins σ H s) (h : H p = some (.lst xs))
    (ho : s.heap.get? p = some { cls := .type "list", data := .seq its.toArray n }) (hf : f { cls := .type "list", data := .seq its.toArray n } = { cls := .type "list", data := .seq its'.toArray n' }) (r : Vals ys its') (hz : ys.length ≤ sizeLine) (t : Nat) :
    Inv X pins σ (upd H p (.lst ys)) { s with heap := s.heap.update p f, toks := t } := by
  have e : (s.heap.update p f).get? p = some { cls := .type "list", data := .seq its'.toArray n' } := by
    rw [Heap.get?_update_self f ho (by rw [hf] <;> rfl), hf]
  refine I.write (x := p) (e := p) (by rw [h]; trivial) (.inl rfl) (fun b u hb q => (Heap.get?_update_other _ _ (Ne.symm hb)).trans q) ⟨_, e⟩ ?_
  exact ⟨hz, its', n', r, e⟩
def rSetL : V → V → V → Hp → (Hp → Prop) → Prop := fun o i v H Q => ∃ p xs k j, o = .ref p ∧ i = .int k ∧ H p = some (.lst xs) ∧ ixN xs.length k = some j ∧ Q (upd H p (.lst (xs.set j v)))
theorem set_list : PSet X rSetL := by
  intro pins s σ H o i v ov iv u Q I ro ri rv h
  obtain ⟨p, xs, k, j, rfl, rfl, hp, hj, q⟩ := h
  cases ro
  obtain ⟨t, rfl⟩ := ri
  obtain ⟨its, n, r, ho, hz⟩ := I.lst hp
  obtain ⟨h1, h2, h3, h4⟩ := ixN_seq hj
  have hl := r.length
  have hn := line63
  have I' : Inv X pins σ (upd H p (.lst (xs.set j v))) { s with heap := s.heap.update p (Obj.mapSeq (·.setIfInBounds j u)) } :=
    I.lstUpd hp ho (mapSeq_set its n j u) (r.set rv j) (by rw [List.length_set]; exact hz) s.toks
  by_cases h0 : 0 ≤ k
  · have hk : k.toNat = j := by
      rw [seqIndex_of h0 h4] at h1
      exact Option.some.inj h1
    exact PySem.W.ki_setAt ho h0 (by omega) (by rw [List.size_toArray, ← hl]; exact h4) (by rw [hk]; exact ⟨_, I', q⟩)
  · have hk : (k + (its.toArray.size : Int)).toNat = j := by
      rw [seqIndex_neg (by omega) h3] at h1
      rw [List.size_toArray, ← hl]
      exact Option.some.inj h1
    exact PySem.W.ki_setBack ho (by omega) (by rw [List.size_toArray, ← hl]; exact h3) (by omega) (by rw [hk]; exact ⟨_, I', q⟩)

/-! ### slices -/
theorem slice_bounds (lo hi : Option Int) (n : Nat) : (sliceBounds lo hi none n).1 = ((HT.sIx n 0 lo : Nat) : Int) ∧ (sliceBounds lo hi none n).2.1 = ((HT.sIx n n hi : Nat) : Int) ∧ (sliceBounds lo hi none n).2.2 = 1 := by
  refine ⟨?_, ?_, rfl⟩
  · cases lo with
    | none => simp [sliceBounds, HT.sIx]
    | some i =>
      simp only [sliceBounds, HT.sIx, Option.getD_none, show (1 : Int) > 0 by decide, if_true]
      by_cases h : i < 0
      · simp only [h, if_true] <;> omega
      · simp only [h, if_false] <;> omega
  · cases hi with
    | none => simp [sliceBounds, HT.sIx]
    | some i =>
      simp only [sliceBounds, HT.sIx, Option.getD_none, show (1 : Int) > 0 by decide, if_true]
      by_cases h : i < 0
      · simp only [h, if_true] <;> omega
      · simp only [h, if_false] <;> omega
theorem slicePick_cut (its : List Value) (lo hi : Option Int) : slicePick its.toArray lo hi none = ((its.drop (HT.sIx its.length 0 lo)).take (HT.sIx its.length its.length hi - HT.sIx its.length 0 lo)).toArray := by
  obtain ⟨h1, h2, h3⟩ := slice_bounds lo hi its.toArray.size
  unfold slicePick
  rw [h1, h2, h3]
  simp only [sliceRange_one, pick_run, List.size_toArray] <;> rfl
/-- xs[lo:hi] of a list: a new list -/
def rSlL (K : PySem.W.Frag) : V → Option Int → Option Int → Hp → VK → Prop := fun x lo hi H Q => ∃ a xs, x = .ref a ∧ SqL K H a xs ∧ ∀ p, H p = none → Q (.ref p) (upd H p (.lst (cutV xs lo hi)))
theorem sl_list : SlR X (rSlL X.K) := by
  intro pins s σ H x v vl vu lo hi sl Q I rx hs pl pu h
  obtain ⟨a, xs, rfl, hx, q⟩ := h
  cases rx
  obtain ⟨its, r, ht, hz⟩ := I.list hx
  have hlen := r.length
  refine ⟨"list", _, slot_list_getitem.lookup, ht.isList.typeIs, ?_⟩
  refine wpAny_getItem_list_slice ht.isList hs pl pu .none (by simp) ?_ (by rw [List.size_toArray] <;> omega)
  rw [slicePick_cut, ← hlen]
  refine ⟨.ref s.heap.objs.size, _, I.laid (t' := s.toks) (o := .lst (cutV xs lo hi)) (fun b ob q => Heap.get?_push_of_some _ q) (Nat.le_refl _) ?_, rfl, q _ (I.hok.fresh (Nat.le_refl _))⟩
  exact ⟨Nat.le_trans (cutV_length xs lo hi) hz, _, 0, (r.drop (HT.sIx xs.length 0 lo)).take (HT.sIx xs.length xs.length hi - HT.sIx xs.length 0 lo), Heap.get?_push_size _ rfl⟩

/-! ### in, not in: flat items -/
def flatV : V → Bool
  | .non => true
  | .bl _ => true
  | .int _ => true
  | .str _ => true
  | _ => false
/-- == of flat values -/
def eqV : V → V → Bool
  | .non, .non => true
  | .bl a, .bl b => a == b
  | .bl a, .int b => (if a then 1 else 0) == b
  | .int a, .bl b => a == (if b then 1 else 0)
  | .int a, .int b => a == b
  | .str a, .str b => a == b
  | _, _ => false
theorem eqAt_V {A : Around} {s : Shared} {y x : V} {u v : Value} (ry : RelV y u) (rx : RelV x v) (fy : flatV y = true) (fx : flatV x = true) : SeqAt.EqAt A s u v (eqV y x) := by
  cases y with
  | non =>
    cases ry
    cases x with
    | non => cases rx; exact SeqAt.EqAt.same _
    | bl b => cases rx; exact SeqAt.EqAt.none_bool b
    | int b => obtain ⟨t, rfl⟩ := rx; exact SeqAt.EqAt.none_int b t
    | str b => obtain ⟨t, rfl⟩ := rx; exact SeqAt.EqAt.none_str b t
    | _ => exact absurd (show false = true from fx) Bool.false_ne_true
  | bl a =>
    cases ry
    cases x with
    | non => cases rx; exact SeqAt.EqAt.bool_none a
    | bl b => cases rx; exact SeqAt.EqAt.bool_bool a b
    | int b => obtain ⟨t, rfl⟩ := rx; exact SeqAt.EqAt.bool_int a b t
    | str b => obtain ⟨t, rfl⟩ := rx; exact SeqAt.EqAt.bool_str a b t
    | _ => exact absurd (show false = true from fx) Bool.false_ne_true
  | int a =>
    obtain ⟨t', rfl⟩ := ry
    cases x with
    | non => cases rx; exact SeqAt.EqAt.int_none a t'
    | bl b => cases rx; exact SeqAt.EqAt.int_bool a t' b
    | int b => obtain ⟨t, rfl⟩ := rx; exact SeqAt.EqAt.int_int a t' b t
    | str b => obtain ⟨t, rfl⟩ := rx; exact SeqAt.EqAt.int_str a t' b t
    | _ => exact absurd (show false = true from fx) Bool.false_ne_true
  | str a =>
    obtain ⟨t', rfl⟩ := ry
    cases x with
    | non => cases rx; exact SeqAt.EqAt.str_none a t'
    | bl b => cases rx; exact SeqAt.EqAt.str_bool a t' b
    | int b => obtain ⟨t, rfl⟩ := rx; exact SeqAt.EqAt.str_int a t' b t
    | str b => obtain ⟨t, rfl⟩ := rx; exact SeqAt.EqAt.str_str a t' b t
    | _ => exact absurd (show false = true from fx) Bool.false_ne_true
  | _ => exact absurd (show false = true from fy) Bool.false_ne_true
/-- the items' answers, read off the values (a value's own answer does not lean on its token) -/
def eqU (x : V) (u : Value) : Bool := match u with
  | .none => eqV .non x
  | .bool b => eqV (.bl b) x
  | .int i _ => eqV (.int i) x
  | .str z _ => eqV (.str z) x
  | _ => false
theorem eqU_of {x y : V} {u : Value} (r : RelV y u) (f : flatV y = true) : eqU x u = eqV y x := by
  cases y with
  | non => cases r; rfl
  | bl b => cases r; rfl
  | int i => obtain ⟨t, rfl⟩ := r; rfl
  | str z => obtain ⟨t, rfl⟩ := r; rfl
  | _ => exact absurd (show false = true from f) Bool.false_ne_true
theorem any_eqU {x : V} : ∀ {xs : List V} {us : List Value}, Vals xs us → xs.all flatV = true → us.any (eqU x) = xs.any fun y => eqV y x
  | _, _, .nil, _ => rfl
  | y :: xs, u :: us, .cons r t, f => by
    rw [List.all_cons, Bool.and_eq_true] at f
    rw [List.any_cons, List.any_cons, eqU_of r f.1, any_eqU t f.2]
theorem mem_eqAt {A : Around} {s : Shared} {x : V} {v : Value} (rx : RelV x v) (fx : flatV x = true) : ∀ {xs : List V} {us : List Value}, Vals xs us → xs.all flatV = true → ∀ u ∈ us, SeqAt.EqAt A s u v (eqU x u)
  | _, _, .nil, _ => fun u hu => by cases hu
  | y :: xs, u :: us, .cons r t, f => fun u' hu => by
    rw [List.all_cons, Bool.and_eq_true] at f
    rcases List.mem_cons.mp hu with rfl | hu
    · rw [eqU_of r f.1]; exact eqAt_V r rx f.1 fx
    · exact mem_eqAt rx fx t f.2 u' hu
def inV (x : V) (xs : List V) : Bool := xs.any fun y => eqV y x
/-- x in a list or tuple of flat items -/
def rIn (K : PySem.W.Frag) (neg : Bool) : R2 := fun x y H Q => ∃ p xs, y = .ref p ∧ (SqL K H p xs ∨ SqT K H p xs) ∧ flatV x = true ∧ xs.all flatV = true ∧ Q (.bl (if neg then !inV x xs else inV x xs)) H
theorem op_in_seq : OpR X (compareOp .In) (rIn X.K false) := by
  intro pins s σ H x y v u Q I rx ry h
  obtain ⟨p, xs, rfl, hq, fx, fs, q⟩ := h
  cases ry
  rcases hq with hq | hq
  · obtain ⟨its, r, pl, hz⟩ := I.list hq
    refine SeqAt.in_listAt (eqU x) pl.isList (fun w hw => mem_eqAt rx fx r fs w (by simpa using hw)) ⟨.bl _, H, I, rfl, ?_⟩
    rw [show its.toArray.any (eqU x) = its.any (eqU x) by simp, any_eqU r fs]
    exact q
  · obtain ⟨its, r, pl, hz⟩ := I.tuple hq
    refine SeqAt.in_tupleAt (eqU x) pl (fun w hw => mem_eqAt rx fx r fs w (by simpa using hw)) ⟨.bl _, H, I, rfl, ?_⟩
    rw [show its.toArray.any (eqU x) = its.any (eqU x) by simp, any_eqU r fs]
    exact q
theorem op_notIn_seq : OpR X (compareOp .NotIn) (rIn X.K true) := by
  intro pins s σ H x y v u Q I rx ry h
  obtain ⟨p, xs, rfl, hq, fx, fs, q⟩ := h
  cases ry
  rcases hq with hq | hq
  · obtain ⟨its, r, pl, hz⟩ := I.list hq
    refine SeqAt.notIn_listAt (eqU x) pl.isList (fun w hw => mem_eqAt rx fx r fs w (by simpa using hw)) ⟨.bl _, H, I, rfl, ?_⟩
    rw [show its.toArray.any (eqU x) = its.any (eqU x) by simp, any_eqU r fs]
    exact q
  · obtain ⟨its, r, pl, hz⟩ := I.tuple hq
    refine SeqAt.notIn_tupleAt (eqU x) pl (fun w hw => mem_eqAt rx fx r fs w (by simpa using hw)) ⟨.bl _, H, I, rfl, ?_⟩
    rw [show its.toArray.any (eqU x) = its.any (eqU x) by simp, any_eqU r fs]
    exact q
theorem op_notIn_str : OpR X (compareOp .NotIn) (fun x y H Q => ∃ i j, x = .str i ∧ y = .str j ∧ Q (.bl (!(!(Builtin.Str.occurrences j i 0 j.length 1).isEmpty))) H) := by
  intro pins s σ H x y v u Q I rx ry h
  obtain ⟨i, j, rfl, rfl, q⟩ := h
  obtain ⟨t, rfl⟩ := rx
  obtain ⟨t', rfl⟩ := ry
  exact notIn_str ⟨.bl _, H, I, rfl, q⟩

/-! ### len, list(x), tuple(x) of any list or tuple that is read -/
theorem call_len_seq : CallR X (.builtin "len") (fun xs H Q => ∃ p ys, xs = [.ref p] ∧ (SqL X.K H p ys ∨ SqT X.K H p ys) ∧ Q (.int ys.length) H) := by
  intro pins s σ H xs us Q I r h
  obtain ⟨p, ys, rfl, hq, q⟩ := h
  obtain ⟨u, rfl, rx⟩ := vals1 r
  cases rx
  have hn := line63
  rcases hq with hq | hq
  · obtain ⟨its, r', pl, hz⟩ := I.list hq
    have hlen := r'.length
    exact Calls.call_len_list pl.isList (by simp only [List.size_toArray] <;> omega) ⟨.int ys.length, H, I.tok _, ⟨s.toks + 1, by rw [List.size_toArray, hlen]⟩, q⟩
  · obtain ⟨its, r', pl, hz⟩ := I.tuple hq
    have hlen := r'.length
    exact len_tuple pl (by simp only [List.size_toArray] <;> omega) ⟨.int ys.length, H, I.tok _, ⟨s.toks + 1, by rw [List.size_toArray, hlen]⟩, q⟩
theorem call_len_str : CallR X (.builtin "len") (fun xs H Q => ∃ z, xs = [.str z] ∧ z.length ≤ sizeLine ∧ Q (.int z.length) H) := by
  intro pins s σ H xs us Q I r h
  obtain ⟨z, rfl, hz, q⟩ := h
  obtain ⟨u, rfl, t, rfl⟩ := vals1 r
  have hn := line63
  exact len_str (by omega) ⟨.int z.length, H, I.tok _, ⟨_, rfl⟩, q⟩
theorem CallR.or {f : Value} {r r' : List V → Hp → VK → Prop} (h : CallR X f r) (h' : CallR X f r') : CallR X f (fun xs H Q => r xs H Q ∨ r' xs H Q) := by
  intro pins s σ H xs us Q I rs q
  rcases q with q | q
  · exact h pins s σ H xs us Q I rs q
  · exact h' pins s σ H xs us Q I rs q
theorem call_list_of : CallR X (.type "list") (fun xs H Q => ∃ p ys, xs = [.ref p] ∧ (SqL X.K H p ys ∨ SqT X.K H p ys) ∧ ∀ l, H l = none → Q (.ref l) (upd H l (.lst ys))) := by
  intro pins s σ H xs us Q I r h
  obtain ⟨p, ys, rfl, hq, q⟩ := h
  obtain ⟨u, rfl, rx⟩ := vals1 r
  cases rx
  have fin : ∀ (its : List Value), Vals ys its → ys.length ≤ sizeLine → ∀ (h' : Heap) (c' : Nat), (∀ b o', s.heap.get? b = some o' → h'.get? b = some o') →
      h'.get? s.heap.objs.size = some { cls := .type "list", dict := none, data := .seq its.toArray c', slots := #[] } → EP X pins σ Q (.ref s.heap.objs.size) { s with heap := h' } := fun its r' hz h' c' kp e =>
    ⟨.ref s.heap.objs.size, _, I.laid (t' := s.toks) kp (Nat.le_refl _) (show ObjOk X.prog X.w _ h' _ (.lst ys) from ⟨hz, its, c', r', e⟩), rfl, q _ (I.hok.fresh (Nat.le_refl _))⟩
  rcases hq with hq | hq
  · obtain ⟨its, r', pl, hz⟩ := I.list hq
    have hlen := r'.length
    obtain ⟨o, ho, hc, n, hd⟩ := pl.isList
    exact call_list_seq p (.inl rfl) ho hc hd (fun h' c' kp e => fin its r' hz h' c' kp e) (by simp only [List.size_toArray] <;> omega)
  · obtain ⟨its, r', pl, hz⟩ := I.tuple hq
    have hlen := r'.length
    obtain ⟨o, ho, hc, n, hd⟩ := pl
    exact call_list_seq p (.inr rfl) ho hc hd (fun h' c' kp e => fin its r' hz h' c' kp e) (by simp only [List.size_toArray] <;> omega)
theorem call_tuple_of : CallR X (.type "tuple") (fun xs H Q => ∃ p ys, xs = [.ref p] ∧ ((SqL X.K H p ys ∧ ∀ l, H l = none → Q (.ref l) (upd H l (.tup ys))) ∨ (SqT X.K H p ys ∧ Q (.ref p) H))) := by
  intro pins s σ H xs us Q I r h
  obtain ⟨p, ys, rfl, h⟩ := h
  obtain ⟨u, rfl, rx⟩ := vals1 r
  cases rx
  rcases h with ⟨hq, q⟩ | ⟨hq, q⟩
  · obtain ⟨its, r', pl, hz⟩ := I.list hq
    have hlen := r'.length
    refine call_tuple_list pl.isList (fun h' kp => ?_) (by simp only [List.size_toArray] <;> omega)
    have I1 : Inv X pins σ H { s with heap := h' } := I.kept (t' := s.toks) kp
    have I2 : Inv X pins σ (upd H h'.objs.size (.tup ys)) { s with heap := h'.push { cls := .type "tuple", data := .seq its.toArray } } :=
      I1.laid (t' := s.toks) (fun b o e => Heap.get?_push_of_some _ e) (Nat.le_refl _) (show ObjOk X.prog X.w _ _ _ (.tup ys) from ⟨hz, its, r', IsTup.new _ _⟩)
    exact ⟨.ref h'.objs.size, _, I2, rfl, q _ (I1.hok.fresh (Nat.le_refl _))⟩
  · obtain ⟨its, r', pl, hz⟩ := I.tuple hq
    exact call_tuple_same pl ⟨.ref p, H, I, rfl, q⟩

/-! ### the call of a builtin's method: o.m(..) -/
/-- the value is of that builtin type -/
def tyV (K : PySem.W.Frag) (T : String) (x : V) (H : Hp) : Prop := match x with
  | .str _ => T = "str"
  | .int _ => T = "int"
  | .ref p => (T = "list" ∧ ∃ xs, SqL K H p xs) ∨ (T = "tuple" ∧ ∃ o, K.lookup p = some o ∧ o.cls = .type "tuple" ∧ o.dict = none) ∨
      (T = "dict" ∧ ((∃ kvs, H p = some (.dK kvs)) ∨ ∃ kvs, H p = some (.dT kvs))) ∨ (T = "set" ∧ ∃ S n, H p = some (.set S n))
  | _ => False
theorem tyV_is {pins : List (Addr × Obj)} {σ : St} {H : Hp} {s : Shared} {T : String} {x : V} {v : Value} (I : Inv X pins σ H s) (r : RelV x v) (ty : tyV X.K T x H) :
    s.TypeIs v T ∧ ∀ a, v = .ref a → ∃ ob, s.heap.get? a = some ob ∧ ob.dict = none := by
  cases x with
  | str z =>
    obtain ⟨t, rfl⟩ := r
    cases (show T = "str" from ty)
    exact ⟨typeIs_str s z t, fun _ e => nomatch e⟩
  | int i =>
    obtain ⟨t, rfl⟩ := r
    cases (show T = "int" from ty)
    exact ⟨typeIs_int s i t, fun _ e => nomatch e⟩
  | ref p =>
    cases r
    rcases ty with ⟨rfl, xs, hq⟩ | ⟨rfl, o, hk, hc, hd⟩ | ⟨rfl, hk⟩ | ⟨rfl, S, n, hk⟩
    · obtain ⟨its, _, pl, _⟩ := I.list hq
      refine ⟨pl.isList.typeIs, fun a e => ?_⟩
      cases e
      obtain ⟨o, n, e, c, hd, _⟩ := pl
      exact ⟨o, e, hd⟩
    · refine ⟨⟨o, I.kIn p o hk, hc⟩, fun a e => ?_⟩
      cases e
      exact ⟨o, I.kIn _ o hk, hd⟩
    · have z : ∃ o, s.heap.get? p = some o ∧ o.ExactDict := by
        rcases hk with ⟨kvs, hk⟩ | ⟨kvs, hk⟩
        · obtain ⟨_, _, _, _, o, _, _, e, ex, _⟩ := I.hok p _ hk
          exact ⟨o, e, ex⟩
        · obtain ⟨_, _, _, _, o, _, _, e, ex, _⟩ := I.hok p _ hk
          exact ⟨o, e, ex⟩
      obtain ⟨o, e, ex⟩ := z
      refine ⟨⟨o, e, ex.1⟩, fun a e2 => ?_⟩
      cases e2
      exact ⟨o, e, ex.2.1⟩
    · obtain ⟨o, _, _, _, e, ex, _⟩ := I.hok p _ hk
      refine ⟨⟨o, e, ex.1⟩, fun a e2 => ?_⟩
      cases e2
      exact ⟨o, e, ex.2.1⟩
  | _ => exact False.elim ty
def tBM0 (K : PySem.W.Frag) (T : String) (r : V → List V → Hp → VK → Prop) (to : TE) : TE := fun σ H Q => to σ H fun x H1 => tyV K T x H1 ∧ r x [] H1 Q
def tBM (K : PySem.W.Frag) (T : String) (r : V → List V → Hp → VK → Prop) (to : TE) (t : TA) : TE := fun σ H Q => to σ H fun x H1 => tyV K T x H1 ∧ t σ H1 fun xs H2 => r x xs H2 Q
variable {o e : Expr} {es : List Expr} {to : TE} {t : TA} {name : Str} {apos cpos : Pos} {T id : String} {r : V → List V → Hp → VK → Prop}
theorem pe_bm0 (pa : PlainAttrs T) (slot : Slot T name id) (hty : typeOf (.builtin id) = pure (.type "method_descriptor")) (hm : MtR X id r) (ho : PE X o to)
    (hbase : attributeBase o name X.env (eval o X.env) = eval o X.env := by rfl) (hline : (apos.endLine == cpos.line) = true := by rfl) : PE X (.Call (.Attribute o name apos) [] [] cpos) (tBM0 X.K T r to) := by
  intro pins s σ H Q I h
  refine wpAny_Call_method0_late hbase hline (thn (ho pins s σ H _ I h) fun v s1 ⟨x, H1, I1, r1, ty, q1⟩ => ?_)
  obtain ⟨h1, h2⟩ := tyV_is I1 r1 ty
  exact ⟨T, id, pa, slot, hty, h1, h2, Calls.callWith_builtin rfl (PySem.evalArgs_none (hm pins s1 σ H1 x [] v [] Q I1 r1 .nil q1))⟩
theorem pe_bm (pa : PlainAttrs T) (slot : Slot T name id) (hty : typeOf (.builtin id) = pure (.type "method_descriptor")) (hm : MtR X id r) (ho : PE X o to) (ha : PA X (e :: es) t)
    (hbase : attributeBase o name X.env (eval o X.env) = eval o X.env := by rfl)
    (hfew : ((backTo cpos (starEach (e :: es) X.env)).all (fun x => !x.1) && (backToKw cpos (keywordEach [] X.env)).all (fun x => x.1.isSome)
      && decide ((e :: es).length + ([] : List Keyword).length + (if ([] : List Keyword).isEmpty then 0 else 1) < 30)) = true := by rfl)
    (hline : (apos.endLine == cpos.line) = true := by rfl) (hs : starEach (e :: es) X.env = (false, eval e X.env) :: starEach es X.env := by rfl) (hplain : (backTo cpos (starEach es X.env)).any (·.1) = false := by rfl) :
    PE X (.Call (.Attribute o name apos) (e :: es) [] cpos) (tBM X.K T r to t) := by
  intro pins s σ H Q I h
  refine wpAny_Call_method_late hbase hfew hline rfl (thn (ho pins s σ H _ I h) fun v s1 ⟨x, H1, I1, r1, ty, q1⟩ => ?_)
  obtain ⟨h1, h2⟩ := tyV_is I1 r1 ty
  refine ⟨T, id, pa, slot, hty, h1, h2, ?_⟩
  have hA := ha cpos pins s1 σ H1 _ I1 q1
  rw [hs] at hA ⊢
  refine Calls.callWith_builtin (by show (false || (backTo cpos (starEach es X.env)).any (·.1)) = false; rw [hplain] <;> rfl) (Calls.evalArgs_plain ?_)
  exact thn hA fun us s2 ⟨vs, H2, I2, r2, q2⟩ => hm pins s2 σ H2 x vs v us Q I2 r1 r2 q2
/- xs.append(e), list.index on a module's tuple .. are MtR facts of 06m -/
end
end L2

namespace L2
open PySem PySem.Spec PyProof.Rows

def MtM (X : Cx) (id : String) (r : V → List V → Hp → VK → Prop) : Prop :=
  ∀ (pins : List (Addr × Obj)) (s : Shared) (σ : St) (H : Hp) (x : V) (xs : List V) (v : Value) (us : List Value) (Q : VK), Inv X pins σ H s → RelV x v → Vals xs us → r x xs H Q →
    wpAny (model X.prog X.w) X.A (call (.builtin id) (v :: us)) (EP X pins σ Q) X.xe s

/-! ### lists of values -/
theorem Vals.one : ∀ {x : V} {us : List Value}, Vals [x] us → ∃ u, us = [u] ∧ RelV x u
  | _, _, .cons r .nil => ⟨_, rfl, r⟩
theorem Vals.two : ∀ {x y : V} {us : List Value}, Vals [x, y] us → ∃ u v, us = [u, v] ∧ RelV x u ∧ RelV y v
  | _, _, _, .cons r (.cons q .nil) => ⟨_, _, rfl, r, q⟩
theorem Vals.zero : ∀ {us : List Value}, Vals [] us → us = []
  | _, .nil => rfl
theorem Vals.dropLast {xs : List V} {us : List Value} (h : Vals xs us) : Vals xs.dropLast us.dropLast := by
  induction h with
  | nil => exact .nil
  | cons r t ih =>
    cases t with
    | nil => exact .nil
    | cons q t' => exact .cons r ih
theorem Vals.eraseIdx : ∀ {xs : List V} {us : List Value} (i : Nat), Vals xs us → Vals (xs.eraseIdx i) (us.eraseIdx i)
  | _, _, _, .nil => .nil
  | _, _, 0, .cons _ t => t
  | _, _, i + 1, .cons r t => .cons r (Vals.eraseIdx i t)
theorem Vals.reverse {xs : List V} {us : List Value} (h : Vals xs us) : Vals xs.reverse us.reverse := by
  induction h with
  | nil => exact .nil
  | cons r t ih => rw [List.reverse_cons, List.reverse_cons]; exact Vals.append ih (.cons r .nil)
theorem Vals.rep {xs : List V} {us : List Value} (h : Vals xs us) : ∀ k : Nat, Vals (List.replicate k xs).flatten (List.replicate k us).flatten
  | 0 => .nil
  | k + 1 => by
    rw [List.replicate_succ, List.replicate_succ, List.flatten_cons, List.flatten_cons]
    exact Vals.append h (Vals.rep h k)
theorem erase_last {α : Type} (l : List α) : l.eraseIdx (l.length - 1) = l.dropLast := by
  induction l with
  | nil => rfl
  | cons a r ih =>
    cases r with
    | nil => rfl
    | cons b r =>
      have e : (a :: b :: r).length - 1 = ((b :: r).length - 1) + 1 := by
        have h1 : (a :: b :: r).length = r.length + 2 := rfl
        have h2 : (b :: r).length = r.length + 1 := rfl
        omega
      rw [e, List.eraseIdx_cons_succ, ih]
      all_goals rfl
theorem len_erase {α : Type} : ∀ (l : List α) (i : Nat), (l.eraseIdx i).length ≤ l.length
  | [], _ => Nat.le_refl _
  | _ :: _, 0 => Nat.le_succ _
  | _ :: r, i + 1 => Nat.succ_le_succ (len_erase r i)
theorem foldl_rep (its : List Value) : ∀ (k : Nat) (acc : List Value),
    List.foldl (fun x1 x2 => x1 ++ x2) acc.toArray (List.replicate k its.toArray) = (acc ++ (List.replicate k its).flatten).toArray
  | 0, acc => by simp
  | k + 1, acc => by
    have e : acc.toArray ++ its.toArray = (acc ++ its).toArray := by simp
    have e2 : (acc ++ its) ++ (List.replicate k its).flatten = acc ++ (List.replicate (k + 1) its).flatten := by
      rw [List.replicate_succ, List.flatten_cons, List.append_assoc]
    rw [← e2, ← foldl_rep its k (acc ++ its), ← e, List.replicate_succ, List.foldl_cons]

section
variable {X : Cx} {pins : List (Addr × Obj)} {σ : St} {H : Hp} {s : Shared} {l b : Addr} {xs ys zs : List V}

/-! ### the two steps: a tracked list is rewritten, a new list is laid -/
theorem Inv.lset {its its' : List Value} {n : Nat} {f : Array Value → Array Value} {t' : Nat} (I : Inv X pins σ H s) (hH : H l = some (.lst xs))
    (e : s.heap.get? l = some { cls := .type "list", data := .seq its.toArray n }) (hf : f its.toArray = its'.toArray) (hv : Vals ys its') (hz : ys.length ≤ sizeLine) :
    Inv X pins σ (upd H l (.lst ys)) { s with heap := s.heap.update l (Obj.mapSeq f), toks := t' } := by
  have q := PySem.IsL.update e f
  rw [hf] at q
  refine I.write (x := l) (e := l) (by rw [hH]; exact trivial) (.inl rfl) (fun b' u hb hu => (Heap.get?_update_other s.heap (Obj.mapSeq f) (Ne.symm hb)).trans hu) ⟨_, q⟩ ?_
  exact ⟨hz, its', _, hv, q⟩
theorem Inv.lnew {its : List Value} {t' : Nat} (I : Inv X pins σ H s) (hv : Vals ys its) (hz : ys.length ≤ sizeLine) :
    Inv X pins σ (upd H s.heap.objs.size (.lst ys)) { s with heap := s.heap.push { cls := .type "list", data := .seq its.toArray }, toks := t' } :=
  I.laid (fun _ _ q => Heap.get?_push_of_some _ q) (Nat.le_refl _) ⟨hz, its, 0, hv, Heap.get?_push_size _ rfl⟩
theorem Inv.fresh (I : Inv X pins σ H s) : H s.heap.objs.size = none := I.hok.fresh (Nat.le_refl _)
theorem Inv.lstM (I : Inv X pins σ H s) (hH : H l = some (.lst xs)) : xs.length ≤ sizeLine ∧ ∃ (its : List Value) (n : Nat), Vals xs its ∧ xs.length = its.length ∧ s.heap.get? l = some { cls := .type "list", data := .seq its.toArray n } := by
  obtain ⟨z, its, n, r, e⟩ := I.hok l _ hH
  exact ⟨z, its, n, r, r.length, e⟩

theorem notLongL {n : Nat} (h : n ≤ sizeLine) : Builtin.List.listTooLong n = false := by
  unfold Builtin.List.listTooLong
  exact decide_eq_false (by omega)
end

section
variable {X : Cx}

/-! ### methods -/
def rAppend : V → List V → Hp → VK → Prop := fun x vs H Q => ∃ l xs y, x = .ref l ∧ vs = [y] ∧ H l = some (.lst xs) ∧ xs.length < sizeLine ∧ Q .non (upd H l (.lst (xs ++ [y])))
theorem mt_append : MtM X "list.append" rAppend := by
  intro pins s σ H x vs v us Q I rx rv h
  obtain ⟨l, xs, y, rfl, rfl, hH, hz, q⟩ := h
  cases rx
  obtain ⟨u, rfl, ru⟩ := rv.one
  obtain ⟨z, its, n, r, hl, e⟩ := I.lstM hH
  refine call_meets F.slot_list_append ⟨_, e, rfl⟩ F.entry_list_append (F.args_list_append_2 _ _) (PySem.list_append l its.toArray n u (by rw [List.size_toArray]; omega)) ⟨e, ?_⟩
  refine ⟨.non, _, I.lset (its' := its ++ [u]) hH e (by simp) (r.append (.cons ru .nil)) ?_, rfl, q⟩
  rw [List.length_append, List.length_singleton]
  omega

def rExtend : V → List V → Hp → VK → Prop := fun x vs H Q => ∃ l b xs zs, x = .ref l ∧ vs = [.ref b] ∧ H l = some (.lst xs) ∧ H b = some (.lst zs) ∧ xs.length + zs.length ≤ sizeLine ∧ Q .non (upd H l (.lst (xs ++ zs)))
theorem mt_extend : MtM X "list.extend" rExtend := by
  intro pins s σ H x vs v us Q I rx rv h
  obtain ⟨l, b, xs, zs, rfl, rfl, hH, hB, hz, q⟩ := h
  cases rx
  obtain ⟨u, rfl, ru⟩ := rv.one
  cases ru
  obtain ⟨z, its, n, r, hl, e⟩ := I.lstM hH
  obtain ⟨z2, its2, n2, r2, hl2, e2⟩ := I.lstM hB
  have hsz : its.toArray.size + its2.toArray.size ≤ sizeLine := by rw [List.size_toArray, List.size_toArray]; omega
  have hlong : ¬ (!its.toArray.isEmpty && Builtin.List.listTooLong (its.toArray.size + its2.toArray.size)) = true := by
    rw [notLongL hsz, Bool.and_false]
    exact Bool.false_ne_true
  refine call_meets F.slot_list_extend ⟨_, e, rfl⟩ F.entry_list_extend (F.args_list_extend_2 _ _)
    (AutoSeq1.list_extend_list_list_0 l its.toArray n b its2.toArray n2 hlong (by rw [List.size_toArray]; omega) (by omega)) ⟨e, e2, ?_⟩
  refine ⟨.non, _, I.lset (its' := its ++ its2) hH e (by simp) (r.append r2) ?_, rfl, q⟩
  rw [List.length_append]
  omega

def rPop : V → List V → Hp → VK → Prop := fun x vs H Q => ∃ l xs y, x = .ref l ∧ vs = [] ∧ H l = some (.lst xs) ∧ xs[xs.length - 1]? = some y ∧ Q y (upd H l (.lst xs.dropLast))
theorem mt_pop : MtM X "list.pop" rPop := by
  intro pins s σ H x vs v us Q I rx rv h
  obtain ⟨l, xs, y, rfl, rfl, hH, hy, q⟩ := h
  cases rx
  have hus := rv.zero
  subst hus
  obtain ⟨z, its, n, r, hl, e⟩ := I.lstM hH
  obtain ⟨u, hu, ru⟩ := r.get hy
  have hy' : its.toArray[its.toArray.size - 1]? = some u := by
    show its.toArray[its.length - 1]? = some u
    rw [← Array.getElem?_toList, ← hl]
    exact hu
  refine call_meets F.slot_list_pop ⟨_, e, rfl⟩ F.entry_list_pop (F.args_list_pop_1 _) (MeetsSeq.list_pop_last l its.toArray n u hy' (by rw [List.size_toArray]; omega)) ⟨e, ?_⟩
  refine ⟨y, _, I.lset (its' := its.dropLast) hH e ?_ r.dropLast ?_, ru, q⟩
  · show its.toArray.eraseIdxIfInBounds (its.toArray.size - 1) = its.dropLast.toArray
    rw [List.size_toArray, List.eraseIdxIfInBounds_toArray, erase_last]
  · rw [List.length_dropLast]
    omega

def rPopAt : V → List V → Hp → VK → Prop := fun x vs H Q => ∃ l xs i k y, x = .ref l ∧ vs = [.int i] ∧ H l = some (.lst xs) ∧ -(2 ^ 63) ≤ i ∧ i < 2 ^ 63 ∧ seqIndex? i xs.length = some k ∧ xs[k]? = some y ∧ Q y (upd H l (.lst (xs.eraseIdx k)))
theorem mt_popAt : MtM X "list.pop" rPopAt := by
  intro pins s σ H x vs v us Q I rx rv h
  obtain ⟨l, xs, i, k, y, rfl, rfl, hH, h1, h2, hk, hy, q⟩ := h
  cases rx
  obtain ⟨u, rfl, ru⟩ := rv.one
  obtain ⟨t, rfl⟩ := ru
  obtain ⟨z, its, n, r, hl, e⟩ := I.lstM hH
  obtain ⟨w, hw, rw'⟩ := r.get hy
  refine call_meets F.slot_list_pop ⟨_, e, rfl⟩ F.entry_list_pop (F.args_list_pop_2 _ _)
    (MeetsSeq.list_pop_at l its.toArray n i t k w (fitsIndex_both h1 h2) (by rw [List.size_toArray, ← hl]; exact hk) (by rw [← Array.getElem?_toList]; exact hw) (by rw [List.size_toArray]; omega)) ⟨e, ?_⟩
  refine ⟨y, _, I.lset (its' := its.eraseIdx k) hH e ?_ (r.eraseIdx k) ?_, rw', q⟩
  · show its.toArray.eraseIdxIfInBounds k = (its.eraseIdx k).toArray
    rw [List.eraseIdxIfInBounds_toArray]
  · have := len_erase xs k
    omega

def rReverse : V → List V → Hp → VK → Prop := fun x vs H Q => ∃ l xs, x = .ref l ∧ vs = [] ∧ H l = some (.lst xs) ∧ Q .non (upd H l (.lst xs.reverse))
theorem mt_reverse : MtM X "list.reverse" rReverse := by
  intro pins s σ H x vs v us Q I rx rv h
  obtain ⟨l, xs, rfl, rfl, hH, q⟩ := h
  cases rx
  have hus := rv.zero
  subst hus
  obtain ⟨z, its, n, r, hl, e⟩ := I.lstM hH
  refine call_meets F.slot_list_reverse ⟨_, e, rfl⟩ F.entry_list_reverse (F.args_list_reverse_1 _) (AutoSeq1.list_reverse_list_0 l its.toArray n (by rw [List.size_toArray]; omega)) ⟨e, ?_⟩
  refine ⟨.non, _, I.lset (its' := its.reverse) hH e (by simp) r.reverse ?_, rfl, q⟩
  rw [List.length_reverse]
  omega

def rClear : V → List V → Hp → VK → Prop := fun x vs H Q => ∃ l xs, x = .ref l ∧ vs = [] ∧ H l = some (.lst xs) ∧ Q .non (upd H l (.lst []))
theorem mt_clear : MtM X "list.clear" rClear := by
  intro pins s σ H x vs v us Q I rx rv h
  obtain ⟨l, xs, rfl, rfl, hH, q⟩ := h
  cases rx
  have hus := rv.zero
  subst hus
  obtain ⟨z, its, n, r, hl, e⟩ := I.lstM hH
  refine call_meets F.slot_list_clear ⟨_, e, rfl⟩ F.entry_list_clear (F.args_list_clear_1 _) (AutoSeq1.list_clear_list_0 l its.toArray n (by rw [List.size_toArray]; omega)) ⟨e, ?_⟩
  exact ⟨.non, _, I.lset (its' := []) (ys := []) hH e rfl .nil (Nat.zero_le _), rfl, q⟩

/-! ### list + list, list += list, list * int -/
def rCat : R2 := fun x y H Q => ∃ l b xs zs, x = .ref l ∧ y = .ref b ∧ H l = some (.lst xs) ∧ H b = some (.lst zs) ∧ xs.length + zs.length ≤ sizeLine ∧ ∀ p, H p = none → Q (.ref p) (upd H p (.lst (xs ++ zs)))
theorem op_cat : OpR X (binaryOp .Add) rCat := by
  intro pins s σ H x y v u Q I rx ry h
  obtain ⟨l, b, xs, zs, rfl, rfl, hH, hB, hz, q⟩ := h
  cases rx
  cases ry
  obtain ⟨z, its, n, r, hl, e⟩ := I.lstM hH
  obtain ⟨z2, its2, n2, r2, hl2, e2⟩ := I.lstM hB
  refine PySem.P.add_list e e2 ?_ (by rw [List.size_toArray, List.size_toArray]; omega)
  have ea : its.toArray ++ its2.toArray = (its ++ its2).toArray := by simp
  rw [ea]
  exact ⟨.ref _, _, I.lnew (t' := s.toks) (r.append r2) (by rw [List.length_append]; omega), rfl, q _ I.fresh⟩
/-- a list times an int (a negative one is nothing) -/
def rRep : R2 := fun x y H Q => ∃ l k xs, x = .ref l ∧ y = .int k ∧ H l = some (.lst xs) ∧ -(2 ^ 63) ≤ k ∧ k < 2 ^ 63 ∧ xs.length * k.toNat ≤ sizeLine ∧
  ∀ p, H p = none → Q (.ref p) (upd H p (.lst (List.replicate k.toNat xs).flatten))
theorem len_rep {α : Type} (xs : List α) (k : Nat) : (List.replicate k xs).flatten.length = k * xs.length := by
  induction k with
  | zero => simp
  | succ k ih => rw [List.replicate_succ, List.flatten_cons, List.length_append, ih, Nat.succ_mul, Nat.add_comm]
theorem op_rep : OpR X (binaryOp .Mult) rRep := by
  intro pins s σ H x y v u Q I rx ry h
  obtain ⟨l, k, xs, rfl, rfl, hH, h1, h2, hz, q⟩ := h
  cases rx
  obtain ⟨t, rfl⟩ := ry
  obtain ⟨z, its, n, r, hl, e⟩ := I.lstM hH
  have hlen : its.toArray.size * k.toNat ≤ sizeLine := by rw [List.size_toArray, ← hl]; exact hz
  have hcap : ¬ its.toArray.size * k.toNat > (2 ^ 63 - 1) / 8 := by
    have : (sizeLine : Nat) ≤ (2 ^ 63 - 1) / 8 := by decide
    omega
  have hfit : ¬ (!Builtin.List.listFitsIndex k) = true := by
    rw [fitsIndex_both h1 h2]
    exact Bool.false_ne_true
  have hlong : ¬ Builtin.List.listTooLong (its.toArray.size * k.toNat) = true := by
    rw [notLongL hlen]
    exact Bool.false_ne_true
  have hnew : List.foldl (fun x1 x2 => x1 ++ x2) #[] (List.replicate (if its.toArray.isEmpty = true then 0 else k.toNat) its.toArray) = (List.replicate k.toNat its).flatten.toArray := by
    have f0 : ∀ m : Nat, List.foldl (fun x1 x2 => x1 ++ x2) #[] (List.replicate m its.toArray) = (List.replicate m its).flatten.toArray := fun m => by
      have := foldl_rep its m []
      rw [List.nil_append] at this
      exact this
    rw [f0]
    cases its with
    | nil => simp
    | cons a r' => rw [if_neg (by simp)]
  refine wpAny_binaryOp_repeat_ref (T := "list") (U := "int") (by decide) ⟨_, e, rfl⟩ (fun s' => typeIs_int s' k t) noFill_list_mul F.fills_int_mul F.slot_int_rmul repeat_list F.slot_int_index.lookup
    (call_meets F.slot_int_rmul (typeIs_int s k t) F.entry_int_rmul (F.args_int_rmul_2 _ _) (int___rmul___int_list k t l its.toArray n)
      ⟨e, rfl, ⟨_, e, rfl⟩, call_meets F.slot_list_mul ⟨_, e, rfl⟩ F.entry_list_mul (F.args_list_mul_2 _ _) (AutoListH.list___mul___list_int_3 l its.toArray n k t hfit hcap hlong) ⟨e, ?_⟩⟩)
  rw [hnew]
  exact ⟨.ref _, _, I.lnew (t' := s.toks) (r.rep k.toNat) (by rw [len_rep, Nat.mul_comm]; exact hz), rfl, q _ I.fresh⟩

/-! ### del xs[i] -/
theorem del_list {pins : List (Addr × Obj)} {s : Shared} {σ : St} {H : Hp} {l : Addr} {xs : List V} {i : Int} {t : Tok} {k : Nat} {Q : Unit → Shared → Prop} (I : Inv X pins σ H s) (hH : H l = some (.lst xs))
    (h1 : -(2 ^ 63) ≤ i) (h2 : i < 2 ^ 63) (hk : seqIndex? i xs.length = some k) (h : ∀ s', Inv X pins σ (upd H l (.lst (xs.eraseIdx k))) s' → Q () s') :
    wpAny (model X.prog X.w) X.A (delItem (.ref l) (.int i t)) Q X.xe s := by
  obtain ⟨z, its, n, r, hl, e⟩ := I.lstM hH
  refine PySem.P.delItem_list (k := k) e (fitsIndex_both h1 h2) (by rw [List.size_toArray, ← hl]; exact hk) (h _ ?_) (by rw [List.size_toArray]; omega)
  refine I.lset (its' := its.eraseIdx k) (t' := s.toks) hH e ?_ (r.eraseIdx k) ?_
  · show its.toArray.eraseIdxIfInBounds k = (its.eraseIdx k).toArray
    rw [List.eraseIdxIfInBounds_toArray]
  · have := len_erase xs k
    omega
end

/-! ### xs[a:b] = ys -/
section
variable {prog : Program} {w : World} {A : Around} {E : Value → Shared → Prop} {s : Shared}
theorem splice_eq (its its2 : List Value) (a c : Nat) : its.toArray.extract 0 a ++ its2.toArray ++ its.toArray.extract c its.toArray.size = (its.take a ++ its2 ++ its.drop c).toArray := by
  apply Array.toList_inj.mp
  first
    | (simp
       exact List.take_of_length_le (by simp))
    | simp [List.take_of_length_le]
    | simp
theorem bounds_run {a c n : Nat} (hac : a ≤ c) (hc : c ≤ n) : sliceBounds (some (a : Int)) (some (c : Int)) none n = ((a : Int), (c : Int), 1) := by
  simp only [sliceBounds, Option.getD_none]
  have h1 : ¬ ((a : Int) < 0) := by omega
  have h2 : ¬ ((c : Int) < 0) := by omega
  simp only [h1, h2, if_false, show (1 : Int) > 0 by decide, if_true]
  congr 1
  · omega
  · congr 1; omega
set_option maxRecDepth 100000 in
/-- list.__setitem__ with a slice of step one and another list -/
theorem setItem_slice {l b sl : Addr} {items new : Array Value} {n n2 : Nat} {vl vu : Value} {a c : Nat} {Q : Unit → Shared → Prop}
    (e : s.heap.get? l = some { cls := .type "list", data := .seq items n }) (e2 : s.heap.get? b = some { cls := .type "list", data := .seq new n2 }) (hne : l ≠ b)
    (hs : s.heap.IsSliceOf sl vl vu .none) (pl : IsPart vl (some (a : Int))) (pu : IsPart vu (some (c : Int))) (hac : a ≤ c) (hc : c ≤ items.size)
    (hsz : items.size + new.size ≤ sizeLine) (h : Q () { s with heap := s.heap.update l (Obj.mapSeq fun xs => xs.extract 0 a ++ new ++ xs.extract c xs.size) }) :
    wpAny (model prog w) A (setItem (.ref l) (.ref sl) (.ref b)) Q E s := by
  have hl : s.heap.IsList l items := PySem.IsL.isList e
  have hb : s.heap.IsList b new := PySem.IsL.isList e2
  obtain ⟨os, hos, hcs, hds⟩ := id hs
  have hTs : s.TypeIs (.ref sl) "slice" := ⟨os, hos, hcs⟩
  have hstep : ¬ ((rawPart none == rawInt 0) = true) := Bool.false_ne_true
  have hsame : Builtin.List.listSameRef (.ref l) (.ref b) = false := by
    unfold Builtin.List.listSameRef
    exact beq_eq_false_iff_ne.mpr hne
  have hmax : (max (a : Int) (c : Int)).toNat = c := by omega
  have hz' : ((fun xs : Array Value => xs.extract 0 a ++ new ++ xs.extract c xs.size) items).size ≤ sizeLine + 1 := by
    simp only [Array.size_append, Array.size_extract]
    omega
  unfold setItem
  try with_reducible refine wpAny_holding ?_
  first | refine wpAny_bind (wpAny_pure ?_) | skip
  refine wpAny_bind (wpAny_sequenceKey hl.typeIs (by decide) ?_)
  refine wpAny_bind (wpAny_callSpecial?_slot (name := Str.ofString "__setitem__") hl.typeIs slot_list_setitem
    (wpAny_call_entry slot_list_setitem hl.typeIs entry_list_setitem ?_ (args_list_setitem _ _ _)))
  show wpAny _ _ (Builtin.List.listSubscript? (.ref sl) >>= _) _ _ s
  refine wpAny_bind ?_
  unfold Builtin.List.listSubscript?
  refine wpAny_bind (wpAny_specialOf hTs slice_no_index ?_)
  simp only [Option.isNone_none, if_true]
  refine wpAny_pure ?_
  show wpAny _ _ (typeOf (.ref sl) >>= _) _ _ s
  refine wpAny_bind (wpAny_typeOf hTs ?_)
  first
    | rw [if_neg (by decide)]
    | refine PySem.W.KFB.if_not (by decide) ?_
  rw [listSliceParts_eq]
  refine wpAny_bind (wpAny_bind (wpAny_field hos hds (x := .none) rfl (wpAny_bind (wpAny_listPart .none ?_))))
  rw [if_neg hstep]
  refine wpAny_bind (wpAny_field hos hds (x := vl) rfl (wpAny_bind (wpAny_listPart pl ?_)))
  refine wpAny_bind (wpAny_field hos hds (x := vu) rfl (wpAny_bind (wpAny_listPart pu (wpAny_pure ?_))))
  first
    | simp only [hsame, Bool.false_eq_true, if_false]
    | refine PySem.W.KFB.if_not hsame ?_
    | (dsimp only
       rw [if_neg (by rw [hsame]; exact Bool.false_ne_true)])
  refine wpAny_bind (m := Builtin.List.listAllItems (.ref b) "must assign iterable to extended slice") ?_
  unfold Builtin.List.listAllItems
  refine wpAny_bind (wpAny_typeOf hb.typeIs ?_)
  first
    | refine PySem.W.KFB.if_so (by decide) ?_
    | rw [if_pos (by decide)]
    | simp only [beq_self_eq_true, Bool.true_or, if_true]
  unfold Builtin.List.listItems
  refine wpAny_bind (wpAny_seqItems e2 rfl (wpAny_pure ?_))
  refine wpAny_bind (wpAny_bind (wpAny_seqItems e rfl (wpAny_pure ?_)))
  refine wpAny_bind (wpAny_of_eq ((sliceIndices_raw (some (a : Int)) (some (c : Int)) none items.size (by simp)).trans (congrArg (pure : Int × Int × Int → Sem (Int × Int × Int)) (bounds_run hac hc))) ?_)
  show wpAny _ _ (if ((1 : Int) == 1) = true then _ else _) _ _ s
  rw [if_pos (by decide)]
  refine wpAny_bind (wpAny_rule ?_)
  first
    | simp only [notLongL hsz, Bool.false_eq_true, if_false]
    | refine PySem.W.KFB.if_not (notLongL hsz) ?_
  first | refine wpAny_bind (wpAny_pure ?_) | skip
  show wpAny _ _ (updateSeq l (fun xs => xs.extract 0 ((a : Int)).toNat ++ new ++ xs.extract (max (a : Int) (c : Int)).toNat xs.size) >>= _) _ _ s
  rw [hmax, Int.toNat_natCast]
  refine wpAny_bind (wpAny_updateSeq (hz := Nat.le_trans (Nat.le_add_right _ _) hsz) (_hz' := hz') e rfl ?_)
  refine wpAny_bind (wpAny_letGo ?_)
  first
    | exact wpAny_bind (wpAny_pure (wpAny_pure ⟨.none, rfl, wpAny_pure h⟩))
    | exact wpAny_pure ⟨.none, rfl, wpAny_pure h⟩
end

section
variable {X : Cx}
/-- xs[a:c] = ys of another list, at the value level: sl is the slice object that was just made -/
theorem set_slice {pins : List (Addr × Obj)} {s : Shared} {σ : St} {H : Hp} {l b sl : Addr} {xs ys : List V} {a c : Int} {vl vu : Value} {Q : Unit → Shared → Prop} (I : Inv X pins σ H s)
    (hH : H l = some (.lst xs)) (hB : H b = some (.lst ys)) (hne : l ≠ b) (hs : s.heap.IsSliceOf sl vl vu .none) (ra : RelV (.int a) vl) (rc : RelV (.int c) vu) (h0 : 0 ≤ a) (hac : a ≤ c) (hc : c ≤ xs.length)
    (hz : xs.length + ys.length ≤ sizeLine) (h : ∀ s', Inv X pins σ (upd H l (.lst (xs.take a.toNat ++ ys ++ xs.drop c.toNat))) s' → Q () s') :
    wpAny (model X.prog X.w) X.A (setItem (.ref l) (.ref sl) (.ref b)) Q X.xe s := by
  obtain ⟨ta, rfl⟩ := ra
  obtain ⟨tc, rfl⟩ := rc
  obtain ⟨z, its, n, r, hl, e⟩ := I.lstM hH
  obtain ⟨z2, its2, n2, r2, hl2, e2⟩ := I.lstM hB
  obtain ⟨a', rfl⟩ := Int.eq_ofNat_of_zero_le h0
  obtain ⟨c', rfl⟩ := Int.eq_ofNat_of_zero_le (Int.le_trans h0 hac)
  simp only [Int.toNat_natCast] at h
  refine setItem_slice (a := a') (c := c') e e2 hne hs (.int _ _) (.int _ _) (by omega) (by rw [List.size_toArray]; omega) (by rw [List.size_toArray, List.size_toArray]; omega) (h _ ?_)
  refine I.lset (its' := its.take a' ++ its2 ++ its.drop c') (t' := s.toks) hH e ?_ (Vals.append (Vals.append (r.take _) r2) (r.drop _)) ?_
  · exact splice_eq its its2 a' c'
  · rw [List.length_append, List.length_append, List.length_take, List.length_drop]
    omega
end
end L2

namespace Att
open PySem PySem.W PySem.Calls PyProof.Rows

/-! ### the script -/
theorem ints_of_wellAll {P : Params} {h : Heap} : ∀ (ns : List Int) (vs : List Value), WellAll P h vs (ns.map WData.int) → IntsAre vs ns := by
  intro ns
  induction ns with
  | nil =>
    intro vs w
    rw [List.map_nil] at w
    cases w
    exact .nil
  | cons n ns ih =>
    intro vs w
    rw [List.map_cons] at w
    cases w with
    | cons a b =>
      cases a
      exact .cons _ _ (ih _ b)

theorem script_of {l : OpenLaw} {n : Nat} (hn : l.most = some n) {P : Params} {h : Heap} {args : List WData} {vals : List Value}
    (hpre : l.row.toRowW.claim.pre args = true) (hwl : WellAll P h vals args) :
    ∃ a vs ns, vals = [Value.ref a] ∧ args = [WData.list (ns.map WData.int)] ∧ h.get? a = some { cls := .type "list", data := .seq vs.toArray } ∧ IntsAre vs ns ∧ ns.length ≤ n := by
  have hsh : WShape.hasAll [] args [.list .int] = true := (pre_splitW hpre).1
  have hc : l.pre.holds [] { args := args } = true := (pre_splitW hpre).2
  obtain ⟨d, r, rfl, h1, h2⟩ := hasAllW_cons hsh
  obtain rfl := hasAllW_nil h2
  obtain ⟨xs, rfl, h3⟩ := hasW_list h1
  obtain ⟨ns, rfl⟩ := items_int h3
  have hlen : ns.length ≤ n := by
    unfold OpenLaw.pre at hc
    have h4 : (WTm.not (.lt (.lit (.int (n : Int))) (.len (.arg 0)))).holds [] { args := [.list (ns.map .int)] } = true := by
      have h4 := (holds_andW hc).1
      rw [hn] at h4
      exact h4
    have h5 := condW_of h4 (w_not (w_lt w_lit (w_len_list (w_arg rfl))))
    rw [List.length_map] at h5
    refine Nat.le_of_not_lt fun q => ?_
    have q' : (n : Int) < ((ns.length : Nat) : Int) := by omega
    first
      | (rw [decide_eq_true q'] at h5; exact absurd h5 (by decide))
      | (simp at h5; omega)
  cases hwl with
  | cons w1 w2 =>
    cases w2
    cases w1 with
    | list ho hall => exact ⟨_, _, ns, rfl, rfl, ho, ints_of_wellAll ns _ hall, hlen⟩

theorem post_true (l : OpenLaw) (args : List WData) : l.row.toRowW.claim.post args (.bool true) args = true :=
  postW_of (r := l.row.toRowW) (X := (true == true))
    (show WShape.has [] (.bool true) .bool = true by first | rfl | decide | simp [WShape.has, WShape.arms, WShape.armsAll])
    (show (WTm.eq .res (.lit (.bool true))).value [] { args := args, res := some (.bool true), after := args } = some (.bool (true == true)) from w_eq_bool (w_res rfl) w_lit) rfl

/-! ### the attachment: holds_open's last premise (the goal 'hc' behind k_head) from a wpAny of the law's body -/
theorem attach {l : OpenLaw} {n : Nat} {q : Program} {loose : List Str} {XP : (Str → Option Value) → Heap → Prop} {YP : World → Heap → Prop} {d : DefRec} {x : Str}
    (hn : l.most = some n) (hdf : d.params.defaults = [])
    (hbind : ∀ pm cd doc v : Value, bindArgs (docDef d.name d.params d.body d.scope pm cd doc) ⟨[v], []⟩ = pure [(x, v)])
    (hx : d.scope.names.lookup x = some .local ∨ d.scope.names.lookup x = some .cell)
    (hk : d.scope.kind = .function) (hco : d.scope.isCoroutine = false) (hgen : d.scope.isGenerator = false)
    (body : ∀ (w : World) (s₀ s₁ s : Shared) (mg mb : Str → Option Value) (fa : Addr) (o : Obj) (pm cd doc : Value) (a : Addr) (vs : List Value) (ns : List Int),
      Ground q loose [] XP w s₀ mg mb s₁.heap → YP w s₁.heap →
      s₁.heap.get? fa = some o → o.data = .func (docDef d.name d.params d.body d.scope pm cd doc) → s₁.heap.CodeRec cd d.name → mg d.name = some (.ref fa) →
      s₁.heap.get? a = some { cls := .type "list", data := .seq vs.toArray } → IntsAre vs ns → ns.length ≤ n →
      s.gens = #[] → s.os = s₁.os →
      Fr s₁.heap s₁.heap.objs.size s.heap (bindL (envOfC d.name d.scope s₁.heap.objs.size fa cd).kindOf [(x, .ref a)] fun _ => none) →
      Cl s₁.heap.objs.size (cellsFrom (s₁.heap.objs.size + 1) d.scope.names []) s.heap (bindC (envOfC d.name d.scope s₁.heap.objs.size fa cd).kindOf [(x, .ref a)] fun _ => none) →
      wpAny (model l.prog w) (callerA.deeper (envOfC d.name d.scope s₁.heap.objs.size fa cd)) (execs d.body (envOfC d.name d.scope s₁.heap.objs.size fa cd))
        (fun f s' => f = .ret (.bool true) ∧ OldK s₁.heap s'.heap ∧ s'.os = s₁.os ∧ AllBare s'.gens) (fun _ _ => False) s) :
    WalkO q loose XP YP l.row.toRowW d [] (fun f vs => PySem.call f vs) := by
  intro w s₀ s₁ mg mb G Y fa o pm cd doc dV kV ho hd hcd hD hmg hg args vals as hpre hlay hrd hwl hlo
  obtain rfl : dV = .none := Dflts.none hD hdf
  obtain rfl : kV = .none := Dflts.noKw hD
  obtain ⟨a, vs, ns, rfl, rfl, hobj, hints, hlen⟩ := script_of hn hpre hwl
  refine enter_call ?_
  refine call_cells_ret (o := o) (by rw [depth_caller]; decide) ho (fd_plain hd) G.T.nolimit hcd (hbind pm cd doc (.ref a)) (fun y hy => ?_) (fun h₁ tk F X => ?_) hco hgen hk
  · obtain rfl : y = (x, Value.ref a) := List.mem_singleton.mp hy
    rcases hx with e | e
    · exact .inl e
    · exact .inr ⟨e, cellsFrom_some _ _ _ (.inl e)⟩
  · refine wpAny_mono (body w s₀ s₁ { s₁ with heap := h₁, toks := tk } mg mb fa o pm cd doc a vs ns G Y ho (fd_plain hd) hcd hmg hobj hints hlen hg rfl F X) (fun f s' hq => ?_) (fun _ _ hq => hq)
    obtain ⟨rfl, h2, h3, h4⟩ := hq
    exact ⟨.inl ⟨.bool true, .bool true, [], rfl, fun _ => rfl, .bool true, post_true l _, fun _ => ⟨List.Pairwise.nil, fun _ hm => (nomatch hm)⟩⟩, h2, h3, h4⟩

/-- the same from a codeAny of the CALL (for a layer whose function contracts speak of calls) -/
theorem attach_call {l : OpenLaw} {n : Nat} {q : Program} {loose : List Str} {XP : (Str → Option Value) → Heap → Prop} {YP : World → Heap → Prop} {d : DefRec}
    (hn : l.most = some n) (hdf : d.params.defaults = [])
    (call : ∀ (w : World) (s₀ s₁ : Shared) (mg mb : Str → Option Value) (fa : Addr) (o : Obj) (pm cd doc : Value) (a : Addr) (vs : List Value) (ns : List Int),
      Ground q loose [] XP w s₀ mg mb s₁.heap → YP w s₁.heap →
      s₁.heap.get? fa = some o → o.data = .func (docDef d.name d.params d.body d.scope pm cd doc) → s₁.heap.CodeRec cd d.name → mg d.name = some (.ref fa) →
      s₁.heap.get? a = some { cls := .type "list", data := .seq vs.toArray } → IntsAre vs ns → ns.length ≤ n → s₁.gens = #[] →
      codeAny (model l.prog w) callerA (.call (.ref fa) ⟨[.ref a], []⟩) (fun r s' => r = .ok (.ret (.bool true)) ∧ OldK s₁.heap s'.heap ∧ s'.os = s₁.os ∧ AllBare s'.gens) s₁) :
    WalkO q loose XP YP l.row.toRowW d [] (fun f vs => PySem.call f vs) := by
  intro w s₀ s₁ mg mb G Y fa o pm cd doc dV kV ho hd hcd hD hmg hg args vals as hpre hlay hrd hwl hlo
  obtain rfl : dV = .none := Dflts.none hD hdf
  obtain rfl : kV = .none := Dflts.noKw hD
  obtain ⟨a, vs, ns, rfl, rfl, hobj, hints, hlen⟩ := script_of hn hpre hwl
  refine enter_call (codeAny_mono (call w s₀ s₁ mg mb fa o pm cd doc a vs ns G Y ho (fd_plain hd) hcd hmg hobj hints hlen hg) fun r s' hq => ?_)
  obtain ⟨rfl, h2, h3, h4⟩ := hq
  exact ⟨.inl ⟨.bool true, .bool true, [], rfl, fun _ => rfl, .bool true, post_true l _, fun _ => ⟨List.Pairwise.nil, fun _ hm => (nomatch hm)⟩⟩, h2, h3, h4⟩

/-- the same where the top left finished generators (o_head chose holds_openN): nothing may have changed at all and no generator may be left -/
theorem attachN {l : OpenLaw} {n : Nat} {q : Program} {loose : List Str} {XP : (Str → Option Value) → Heap → Prop} {YP : World → Heap → Prop} {d : DefRec} {x : Str}
    (hn : l.most = some n) (hdf : d.params.defaults = [])
    (hbind : ∀ pm cd doc v : Value, bindArgs (docDef d.name d.params d.body d.scope pm cd doc) ⟨[v], []⟩ = pure [(x, v)])
    (hx : d.scope.names.lookup x = some .local ∨ d.scope.names.lookup x = some .cell)
    (hk : d.scope.kind = .function) (hco : d.scope.isCoroutine = false) (hgen : d.scope.isGenerator = false)
    (body : ∀ (w : World) (s₀ s₁ s : Shared) (mg mb : Str → Option Value) (fa : Addr) (o : Obj) (pm cd doc : Value) (a : Addr) (vs : List Value) (ns : List Int),
      Ground q loose [] XP w s₀ mg mb s₁.heap → YP w s₁.heap →
      s₁.heap.get? fa = some o → o.data = .func (docDef d.name d.params d.body d.scope pm cd doc) → s₁.heap.CodeRec cd d.name → mg d.name = some (.ref fa) →
      s₁.heap.get? a = some { cls := .type "list", data := .seq vs.toArray } → IntsAre vs ns → ns.length ≤ n →
      s.gens = #[] → s.os = s₁.os →
      Fr s₁.heap s₁.heap.objs.size s.heap (bindL (envOfC d.name d.scope s₁.heap.objs.size fa cd).kindOf [(x, .ref a)] fun _ => none) →
      Cl s₁.heap.objs.size (cellsFrom (s₁.heap.objs.size + 1) d.scope.names []) s.heap (bindC (envOfC d.name d.scope s₁.heap.objs.size fa cd).kindOf [(x, .ref a)] fun _ => none) →
      wpAny (model l.prog w) (callerA.deeper (envOfC d.name d.scope s₁.heap.objs.size fa cd)) (execs d.body (envOfC d.name d.scope s₁.heap.objs.size fa cd))
        (fun f s' => f = .ret (.bool true) ∧ (∀ b o, s₁.heap.get? b = some o → s'.heap.get? b = some o) ∧ s'.os = s₁.os ∧ s'.gens = #[]) (fun _ _ => False) s) :
    WalkN q loose XP YP l.row.toRowW d [] (fun f vs => PySem.call f vs) := by
  intro w s₀ s₁ mg mb G Y fa o pm cd doc dV kV ho hd hcd hD hmg hg args vals as hpre hlay hrd hwl hlo
  obtain rfl : dV = .none := Dflts.none hD hdf
  obtain rfl : kV = .none := Dflts.noKw hD
  obtain ⟨a, vs, ns, rfl, rfl, hobj, hints, hlen⟩ := script_of hn hpre hwl
  refine enter_callW ?_
  refine call_cells_ret (o := o) (by rw [depth_caller]; decide) ho (fd_plain hd) G.T.nolimit hcd (hbind pm cd doc (.ref a)) (fun y hy => ?_) (fun h₁ tk F X => ?_) hco hgen hk
  · obtain rfl : y = (x, Value.ref a) := List.mem_singleton.mp hy
    rcases hx with e | e
    · exact .inl e
    · exact .inr ⟨e, cellsFrom_some _ _ _ (.inl e)⟩
  · refine wpAny_mono (body w s₀ s₁ { s₁ with heap := h₁, toks := tk } mg mb fa o pm cd doc a vs ns G Y ho (fd_plain hd) hcd hmg hobj hints hlen hg rfl F X) (fun f s' hq => ?_) (fun _ _ hq => hq)
    obtain ⟨rfl, h2, h3, h4⟩ := hq
    exact ⟨.inl ⟨.bool true, .bool true, [], rfl, fun _ => rfl, .bool true, post_true l _, fun _ => ⟨List.Pairwise.nil, fun _ hm => (nomatch hm)⟩⟩, h2, h3, h4⟩

/-! ### rules over ANY heap (no ledger) from facts about the written part K: the library's own take a ledger (News) for what they write -/
section
variable {prog : Program} {w : World} {A : Around} {E : Value → Shared → Prop} {s : Shared} {K : Frag}

/-- a def of the module, or a method (qual 'C.m'), entered: the frame is the next address; cells behind it -/
theorem call_fn {R : Result → Shared → Prop} {name qual : Str} {params : Arguments} {body : List Stmt} {scope : Scope} {dV kV doc pm cdv ct oc : Value} {an od : Option Addr} {osl : Array (Option Value)} {f : Addr} {args : Args} {binds : List (Str × Value)}
    (X : K.In s.heap) (hlim : s.heap.NoLimit) (ho : K.lookup f = some ⟨oc, od, .func (fnOf name qual params body scope dV kV doc pm an cdv ct), osl⟩) (hcd : codeIn K cdv qual = true) (hroom : A.depth < recursionLimit)
    (hbind : BindsTo s (fnOf name qual params body scope dV kV doc pm an cdv ct) args binds)
    (hkind : (binds.all fun y => scope.names.lookup y.1 == some .local || scope.names.lookup y.1 == some .cell) = true)
    (h : ∀ s₁, InCallC s s.heap.objs.size (bindL (envOfC qual scope s.heap.objs.size f cdv).kindOf binds fun _ => none) (cellsFrom (s.heap.objs.size + 1) scope.names [])
        (bindC (envOfC qual scope s.heap.objs.size f cdv).kindOf binds fun _ => none) s₁ →
      wpAny (model prog w) (A.deeper (envOfC qual scope s.heap.objs.size f cdv)) (execs body (envOfC qual scope s.heap.objs.size f cdv))
        (fun fl s' => R (.ok (.ret (match fl with | .ret v => v | _ => .none))) s')
        (fun e s' => wpAny (model prog w) (A.deeper (envOfC qual scope s.heap.objs.size f cdv)) (leaving (envOfC qual scope s.heap.objs.size f cdv) e) (fun _ s'' => R (.error e) s'') (fun e' s'' => R (.error e') s'') s') s₁)
    (hco : scope.isCoroutine = false) (hgen : scope.isGenerator = false) (hk : scope.kind = .function) : codeAny (model prog w) A (.call (.ref f) args) R s := by
  refine codeAny_call_function hroom (X _ _ ho) rfl hco hgen rfl (codeRec_of X hcd) (hbind _ _ _ _ ?_)
  refine wpAny_newFunctionEnv_cells hk (kindsX hkind _) fun env he s₁ x => ?_
  subst he
  exact ⟨hlim.keeps x.toInCall.keep, codeAny_func (h s₁ x)⟩

/-- C(..): dict at size, instance at size + 1, then __init__ -/
theorem make_obj {R : Result → Shared → Prop} {C fI : Addr} {rest : List Value} {kw : List (Str × Value)}
    (X : K.In s.heap) (hm : makesIn K C = true) (hi : findIn K (.ref C) "__init__" = some (some (.ref fI))) (hf : isFn K (.ref fI) = true)
    (h : codeAny (model prog w) (A.under (.builtin "type.__call__" ⟨.ref C :: rest, kw⟩)) (.call (.ref fI) ⟨.ref (s.heap.objs.size + 1) :: rest, kw⟩) (InitBack (s.heap.objs.size + 1) R)
      { s with heap := (s.heap.push emptyDict).push (instObj C s.heap.objs.size) }) : codeAny (model prog w) A (.call (.ref C) ⟨rest, kw⟩) R s := by
  obtain ⟨hh, g, d, t, os⟩ := s
  exact make_core (makes_of X hm) (looks_findIn X hi) (fun self => bind_fn X self (beq_iff_eq.mp hf)) (.inl rfl) h

/-- x.name where the instance's dict holds the name and the class does not -/
theorem get_field {x C : Addr} {ox : Obj} {es : List DictEntry} {n : Nat} {name : Str} {expr : Bool} {v : Value} {Q : Value → Shared → Prop}
    (X : K.In s.heap) (I : PySem.W.InstAt s.heap x ox C (some (dictOf es n))) (hg : plainGet K C name = true) (hh : hasDictIn K C = true) (ha : findIn K (.ref C) name = some none)
    (hl : getL name es = some (some v)) (hv : handedIn v = true) (h : Q v { s with toks := s.toks + 1 }) : wpAny (model prog w) A (getAttr (.ref x) name expr) Q E s :=
  get_value X I (plainGet_of hg).1 (findObj_own hh ha rfl hl) hv h

/-- x.m(..): the method found in the class -/
theorem get_method {x C f : Addr} {ox : Obj} {es : List DictEntry} {n : Nat} {name : Str} {pl : Sem Bool} {Q : Value × List Value → Shared → Prop}
    (X : K.In s.heap) (I : PySem.W.InstAt s.heap x ox C (some (dictOf es n))) (hg : plainGet K C name = true) (hf : findIn K (.ref C) name = some (some (.ref f))) (ht : isFn K (.ref f) = true)
    (hl : getL name es = some none) (h : Q (.ref f, [.ref x]) s) : wpAny (model prog w) A (getMethod (.ref x) name pl) Q E s :=
  method_fn X I (plainGet_of hg).1 (plainGet_of hg).2 hf (beq_iff_eq.mp ht) (by show (lookIn name (dictOf es n)).map _ = _; rw [lookIn_dict, hl]; rfl) h

/-! the whole heap as the ledger: makes every rule that writes through a ledger a rule over any heap -/
def noObjs (h : Heap) : Heap := { h with objs := #[] }
theorem noObjs_get (h : Heap) (b : Addr) : (noObjs h).get? b = none := by
  cases e : (noObjs h).get? b with
  | none => rfl
  | some o => exact absurd (Heap.lt_size e) (Nat.not_lt_zero _)
def ledger (h : Heap) (L d : Addr) : List (Addr × Obj) := (List.range h.objs.size).filterMap fun a => if a = L ∨ a = d then none else (h.get? a).map fun o => (a, o)
theorem mem_ledger {h : Heap} {L d a : Addr} {o : Obj} : (a, o) ∈ ledger h L d ↔ a ≠ L ∧ a ≠ d ∧ h.get? a = some o := by
  unfold ledger
  rw [List.mem_filterMap]
  constructor
  · rintro ⟨b, _, e⟩
    split at e
    · cases e
    · rename_i hb
      obtain ⟨o', ho, e'⟩ := Option.map_eq_some_iff.mp e
      cases e'
      exact ⟨fun q => hb (.inl q), fun q => hb (.inr q), ho⟩
  · rintro ⟨n1, n2, ho⟩
    refine ⟨a, List.mem_range.mpr (Heap.lt_size ho), ?_⟩
    rw [if_neg (show ¬ (a = L ∨ a = d) from fun q => q.elim n1 n2), ho] <;> rfl
theorem news_ledger {h : Heap} {L d : Addr} {od : Obj} (hne : d ≠ L) (ho : h.get? d = some od) : News (noObjs h) L h ([] ++ (d, od) :: ledger h L d) := by
  rintro ⟨a, o⟩ hp
  rcases List.mem_cons.mp hp with e | hp
  · cases e
    exact ⟨ho, hne, noObjs_get _ _⟩
  · obtain ⟨n1, n2, e⟩ := mem_ledger.mp hp
    exact ⟨e, n1, noObjs_get _ _⟩
theorem fr_all {h : Heap} {L : Addr} {m : Str → Option Value} (n : h.Ns L m) : Fr (noObjs h) L h m :=
  ⟨n, fun b o e => (by rw [noObjs_get] at e; cases e), Nat.zero_le _⟩
/-- Upd of the head entry (for append_K, setItem_K ..) -/
theorem upd_ledger {h : Heap} {L d : Addr} {o o' : Obj} : Upd d o o' ((d, o) :: ledger h L d) ((d, o') :: ledger h L d) :=
  .head fun ⟨_, _⟩ hp => (mem_ledger.mp hp).2.1

/-- x.name = v over any heap: L is any namespace of the heap (the frame's, say): its map stays, its object is not told; all else but the dict stays -/
theorem set_field {x C dx L : Addr} {ox : Obj} {m : Str → Option Value} {es es' : List DictEntry} {n n' : Nat} {name : Str} {v : Value} {Q : Unit → Shared → Prop}
    (X : K.In s.heap) (I : PySem.W.InstAt s.heap x ox C (some (dictOf es n))) (hd : ox.dict = some dx) (hL : s.heap.Ns L m) (hne : dx ≠ L)
    (hs : findIn K (.ref C) "__setattr__" = some (some (.builtin "object.__setattr__"))) (hp : plainOver K C = true) (ht : takerIn K C name = some none) (hh : hasDictIn K C = true) (hl : (getL name es).isSome = true)
    (e : (putL name (PyData.keyHash w.params name) (.str name (s.toks + 1)) v es, putN name es n) = (es', n')) (hz : es'.length ≤ 1000)
    (h : ∀ h' : Heap, h'.Ns L m → h'.get? dx = some (dictOf es' n') → (∀ b o, b ≠ dx → b ≠ L → s.heap.get? b = some o → h'.get? b = some o) → Q () { s with heap := h', toks := s.toks + 2 }) :
    wpAny (model prog w) A (setAttr (.ref x) name v) Q E s := by
  obtain ⟨e1, e2⟩ := Prod.mk.inj e
  have hdx : s.heap.get? dx = some (dictOf es n) := by
    have := I.dict
    rw [hd] at this
    exact this
  refine set_plain X I hs (osa_dict (s := { s with toks := s.toks + 1 }) (h₀ := noObjs s.heap) (L := L) (m := m) (od := dictOf es n) (od' := dictOf es' n') (es := es') (n := n') (pre := []) (post := ledger s.heap L dx)
    (fr_all hL) (news_ledger hne hdx) X I hd hp ht hh hl (fun _ q => nomatch q) (fun ⟨_, _⟩ q => (mem_ledger.mp q).2.1) (by rw [putName_dict, e1, e2]) rfl hz fun h' F' N' => ?_)
  exact h h' F'.ns (N'.get (List.Mem.head _)) fun b o n1 n2 ho => N'.get (List.Mem.tail _ (mem_ledger.mpr ⟨n2, n1, ho⟩))
end
end Att

namespace L2
open PySem PySem.Spec PyProof.Rows

theorem vals_ints : ∀ {vs : List Value} {ns : List Int}, IntsAre vs ns → Vals (ns.map V.int) vs
  | _, _, .nil => .nil
  | _, _, .cons n t h => .cons ⟨t, rfl⟩ (vals_ints h)

/-- nothing is tracked but the script, known to the object (or it is an object of the module) -/
def Only (H : Hp) : Prop := ∀ b, H b = none ∨ ∃ o xs, H b = some (.frz o (.lst xs))

/-- THE HEAD: the law's promise, at the heap behind the top. F, the promise of the law's def, may use that base is part of the heap (so K.In base, base.Ns mainGlobals mg stand in Mod) -/
theorem law_call {P : Program} {w : World} {K : PySem.W.Frag} {mg mb : Str → Option Value} {CX : CXT} {k : Nat} {fa a : Addr} {fd : FuncData} {x : Str} {sp : Sp} {s₁ : Shared} {vs : List Value} {ns : List Int}
    (KX : K.In s₁.heap) (hns : s₁.heap.Ns mainGlobals mg) (hb : s₁.heap.Ns builtinsNs mb) (hbb : ∀ x : Str, x ≠ "__name__" → mb x = bootBuiltins x) (hlim : s₁.heap.NoLimit) (hg : s₁.gens = #[])
    (ha : s₁.heap.get? a = some { cls := .type "list", data := .seq vs.toArray }) (hi : IntsAre vs ns) (hl : ns.length ≤ sizeLine) (hr : Room k callerA)
    (F : ∀ base : Heap, K.In base → base.Ns mainGlobals mg → FnOk P w K mg base CX k fa fd [x] sp) (hbind : ∀ (s : Shared) (u : Value), BindsTo s fd ⟨[u], []⟩ [(x, u)])
    (hsp : ∀ H : Hp, Only H → SqL K H a (ns.map V.int) → sp [.ref a] H (fun v _ => v = .bl true) fun _ _ _ => False)
    (hCX : ∀ H e s', CX [] H s₁ (fun _ _ _ => False) e s' → False) :
    codeAny (model P w) callerA (.call (.ref fa) ⟨[.ref a], []⟩) (fun r s' => r = .ok (.ret (.bool true)) ∧ OldK s₁.heap s'.heap ∧ s'.os = s₁.os ∧ AllBare s'.gens) s₁ := by
  have rv := vals_ints hi
  have lenV := hi.length
  -- from an abstract heap in which nothing but the script may be tracked
  have core : ∀ H : Hp, Only H → SqL K H a (ns.map V.int) → HOk P w H s₁.heap → (∀ b, H b ≠ none → b = a) → (H a ≠ none → K.lookup a = none) →
      codeAny (model P w) callerA (.call (.ref fa) ⟨[.ref a], []⟩) (fun r s' => r = .ok (.ret (.bool true)) ∧ OldK s₁.heap s'.heap ∧ s'.os = s₁.os ∧ AllBare s'.gens) s₁ := by
    intro H hO hS hok hA hK
    have base_of : ∀ {b : Addr} {o : Obj}, s₁.heap.get? b = some o → H b = none → (hidT s₁.heap H).get? b = some o := fun e n => hidT_get e n
    have noA : ∀ {b : Addr} {o : Obj} {es : Array DictEntry} {ep : Nat}, s₁.heap.get? b = some o → o.data = .dict es ep → H b = none := fun {b o es ep} e d => by
      cases q : H b with
      | none => rfl
      | some u =>
        have e' : b = a := hA b (by rw [q]; simp)
        subst e'
        rw [ha] at e; cases e
        have d' : Data.seq vs.toArray _ = Data.dict es ep := d
        cases d'
    have nsK : ∀ {b : Addr} {m : Str → Option Value}, s₁.heap.Ns b m → (hidT s₁.heap H).Ns b m := fun {b m} ⟨o, es, ep, e, d, r⟩ => ⟨o, es, ep, base_of e (noA e d), d, r⟩
    have hKb : K.In (hidT s₁.heap H) := fun b o e => base_of (KX b o e) (by
      cases q : H b with
      | none => rfl
      | some u =>
        have e' : b = a := hA b (by rw [q]; simp)
        subst e'
        rw [hK (by rw [q]; simp)] at e; cases e)
    have hM : Mod K mg (hidT s₁.heap H) := ⟨hKb, nsK hns, ⟨mb, nsK hb, hbb⟩, let ⟨mc, h1, h2⟩ := hlim; ⟨mc, nsK h1, h2⟩⟩
    have e0 : Env0 P w K mg (hidT s₁.heap H) callerA [] s₁ H := ⟨rfl, hM, fun b o e => of_hidT e, Nat.le_of_eq (hidT_size _ _), trivial, fun b hb => absurd (show b ∈ ([] : List Addr) from hb) (by simp), hok, .of_eq hg⟩
    refine codeAny_mono ((F _ hKb (nsK hns)).run callerA [] s₁ H ⟨[.ref a], []⟩ [.ref a] [.ref a] _ _ hr e0 (hbind s₁ (.ref a)) (.cons rfl .nil) (hsp H hO hS)) fun r s' h => ?_
    cases r with
    | error e => exact (hCX H e s' h).elim
    | ok fl =>
      cases fl with
      | next => exact False.elim h
      | brk => exact False.elim h
      | cont => exact False.elim h
      | ret u =>
        obtain ⟨v, H', os, bare, un, hok', r', q⟩ := h
        have q' : v = .bl true := q
        subst q'
        obtain rfl : u = Value.bool true := r'
        refine ⟨rfl, OldK.of_keep fun b o e => ?_, os, bare⟩
        cases q : H b with
        | none => exact un.keep b o e q (by intro z; exact absurd (show b ∈ ([] : List Addr) from z) (by simp)) (by simp)
        | some u =>
          rcases hO b with z | ⟨ob, xs, z⟩
          · rw [q] at z; cases z
          · have z2 := un.frzs b ob _ z
            obtain ⟨e1, _⟩ := hok b _ z
            obtain ⟨e2, _⟩ := hok' b _ z2
            rw [e] at e1; cases e1
            exact e2
  cases hk : K.lookup a with
  | some o =>
    -- the script is one of the module's own objects
    have e := KX a o hk
    rw [ha] at e
    cases e
    refine core (fun _ => none) (fun _ => .inl rfl) (.inr ⟨_, vs.toArray, _, hk, rfl, rfl, rfl, by rw [List.size_toArray, lenV]; exact hl, by simpa using rv⟩) (fun b u z => by have z' : (none : Option HO) = some u := z; cases z') (fun b z => absurd rfl z) fun z => absurd rfl z
  | none =>
    refine core (fun b => if b = a then some (.frz { cls := .type "list", data := .seq vs.toArray } (.lst (ns.map V.int))) else none) (fun b => ?_) (.inl (.inr ⟨{ cls := .type "list", data := .seq vs.toArray }, if_pos rfl⟩)) (fun b u z => ?_) (fun b z => ?_) fun _ => hk
    · by_cases hb : b = a
      · exact .inr ⟨_, _, if_pos hb⟩
      · exact .inl (if_neg hb)
    · by_cases hb : b = a
      · have z' := (if_pos hb).symm.trans z
        cases z'
        subst hb
        exact ⟨ha, by rw [List.length_map]; exact hl, vs, _, rv, ha⟩
      · have z' := (if_neg hb).symm.trans z
        cases z'
    · by_cases hb : b = a
      · exact hb
      · exact absurd (if_neg hb) z
end L2

namespace L2
open PySem PySem.Spec PyProof.Rows

abbrev KOf {K : PySem.W.Frag} {h : Heap} (_ : K.In h) : PySem.W.Frag := K

/-- the goal that k_head leaves (case hc), from the law's promise. F gives the function object fd (K's own) once, then the promise over every base -/
theorem walk_of {l : PySem.W.OpenLaw} {n k : Nat} {q : Program} {loose : List Str} {XP : (Str → Option Value) → Heap → Prop} {YP : World → Heap → Prop} {d : DefRec} {K : Params → PySem.W.Frag} {CX : World → CXT} {sp : World → Sp} {x : Str}
    (hn : l.most = some n) (hn2 : n ≤ sizeLine) (hdf : d.params.defaults = []) (hr : Room k callerA)
    (hY : ∀ (w : World) (h : Heap), YP w h → (K w.params).In h)
    (F : ∀ (w : World) (mg : Str → Option Value) (fa : Addr) (h : Heap), (K w.params).In h → h.Ns mainGlobals mg → mg d.name = some (.ref fa) →
      ∃ fd : FuncData, (∀ (s : Shared) (u : Value), BindsTo s fd ⟨[u], []⟩ [(x, u)]) ∧
        ∀ base : Heap, (K w.params).In base → base.Ns mainGlobals mg → FnOk l.prog w (K w.params) mg base (CX w) k fa fd [x] (sp w))
    (hsp : ∀ (w : World) (H : Hp) (a : Addr) (ns : List Int), ns.length ≤ n → Only H → SqL (K w.params) H a (ns.map V.int) → sp w [.ref a] H (fun v _ => v = .bl true) fun _ _ _ => False)
    (hCX : ∀ (w : World) (H : Hp) (s : Shared) (e : Value) (s' : Shared), CX w [] H s (fun _ _ _ => False) e s' → False) :
    PySem.W.WalkO q loose XP YP l.row.toRowW d [] (fun f vs => PySem.call f vs) := by
  refine Att.attach_call hn hdf fun w s₀ s₁ mg mb fa o pm cd doc a vs ns G Y ho hd hcd hmg hobj hints hlen hg => ?_
  have KX := hY w _ Y
  obtain ⟨fd, hb, hF⟩ := F w mg fa _ KX G.T.g hmg
  exact law_call KX G.T.g G.T.b G.T.builtins G.T.nolimit hg hobj hints (Nat.le_trans hlen hn2) hr hF hb (fun H hO hS => hsp w H a ns hlen hO hS) fun H e s' => hCX w H s₁ e s'
/-- the same where the promise hangs on the written part alone: (sp := My.sp_law), no hole under a binder -/
theorem walk_ofK {l : PySem.W.OpenLaw} {n k : Nat} {q : Program} {loose : List Str} {XP : (Str → Option Value) → Heap → Prop} {YP : World → Heap → Prop} {d : DefRec} {K : Params → PySem.W.Frag} {CX : CXT} {sp : PySem.W.Frag → Sp} {x : Str}
    (hn : l.most = some n) (hn2 : n ≤ sizeLine) (hdf : d.params.defaults = []) (hr : Room k callerA)
    (hY : ∀ (w : World) (h : Heap), YP w h → (K w.params).In h)
    (F : ∀ (w : World) (mg : Str → Option Value) (fa : Addr) (h : Heap), (K w.params).In h → h.Ns mainGlobals mg → mg d.name = some (.ref fa) →
      ∃ fd : FuncData, (∀ (s : Shared) (u : Value), BindsTo s fd ⟨[u], []⟩ [(x, u)]) ∧
        ∀ base : Heap, (K w.params).In base → base.Ns mainGlobals mg → FnOk l.prog w (K w.params) mg base CX k fa fd [x] (sp (K w.params)))
    (hsp : ∀ (K : PySem.W.Frag) (H : Hp) (a : Addr) (ns : List Int), ns.length ≤ n → Only H → SqL K H a (ns.map V.int) → sp K [.ref a] H (fun v _ => v = .bl true) fun _ _ _ => False)
    (hCX : ∀ (H : Hp) (s : Shared) (e : Value) (s' : Shared), CX [] H s (fun _ _ _ => False) e s' → False) :
    PySem.W.WalkO q loose XP YP l.row.toRowW d [] (fun f vs => PySem.call f vs) :=
  walk_of (K := K) (CX := fun _ => CX) (sp := fun w => sp (K w.params)) hn hn2 hdf hr hY F (fun w H a ns h1 h2 h3 => hsp (K w.params) H a ns h1 h2 h3) fun _ H s e s' => hCX H s e s'
end L2

/- THE LAST THEOREM (shape; LID, My.* are yours):
   My.Adr: a structure of the addresses that your layer names (classes, functions); My.Txt K t: a structure (Prop) of the equations over K;
   My.txt_mk : {K} {implicit addresses ..} (e1 : nsIn K mainGlobals "law" = some (some (.ref f))) (e2 : K.lookup f = some ⟨oc, od, .func (fnOf "law" "law" params body scope dV kV doc pm an cdv ct), sl⟩) (e3 : codeIn K cdv "law" = true) .. : ∃ t, My.Txt K t

set_option maxRecDepth 100000 in
set_option maxHeartbeats 0 in
theorem PySem.Challenge.cw_LID_holds : PySem.Challenge.rw_LID.Holds := by
  w_on; o_law; k_head; (case hw => w_witness2)
  k_fill
  refine L2.walk_of (l := PySem.Challenge.rw_LID) (n := 63) (k := 40) (x := "script") (CX := fun w => ..) (sp := fun _ => My.sp_law) rfl (by decide) rfl ⟨rfl, by decide, by decide⟩ (fun w h Y => PySem.W.kIn_of Y) ?F ?S ?C
  case F =>
    intro w mg fa h KX G hmg
    have T : ∃ t, My.Txt (L2.KOf KX) t := by
      dsimp only [L2.KOf]                          -- K must stand as «<heap const> w.params» for k_is
      refine' My.txt_mk ?e1 ?e2 ?e3 ..
      (case e1 => PySem.W.k_is)                    -- in the order: a name -> its address -> its object -> its parts
      (case e2 => PySem.W.k_is)
      ..
    obtain ⟨t, T⟩ := T
    have e0 := hmg.symm.trans (PySem.W.mg_of KX G T.law)
    cases e0                                       -- fa is the law's own address
    exact ⟨_, fun s u => .of_eq rfl, fun base kb nb => My.law_fn T kb nb⟩     -- if «.of_eq rfl» comes too early: refine' ⟨_, ?b, fun base kb nb => My.law_fn T kb nb⟩; exact fun s u => .of_eq rfl
  case S => exact fun w H a ns hl hO hS => ..
  case C => exact ..
(the tactic k_is has no namespace: write k_is) -/

/-! SHORT WORDS over the layer: a def of the text, its body, what a loop and a test want. -/
namespace L2
open PySem PySem.Spec PyProof.Rows

/-! ### the text by places -/
/-- the j-th statement of a class's body -/
def inClass (s : Stmt) (j : Nat) : Stmt := match s with
  | .ClassDef _ _ _ body _ _ _ _ _ _ _ => body.getD j (.Pass ⟨0, 0, 0, 0⟩)
  | _ => .Pass ⟨0, 0, 0, 0⟩
def defArgs (s : Stmt) : Arguments := match s with
  | .FunctionDef _ a _ _ _ _ _ _ _ _ => a
  | _ => { posonlyargs := [], args := [], vararg := none, kwonlyargs := [], kw_defaults := [], kwarg := none, defaults := [] }
def defBody (s : Stmt) : List Stmt := match s with
  | .FunctionDef _ _ b _ _ _ _ _ _ _ => b
  | _ => []
def defScope (s : Stmt) : Scope := match s with
  | .FunctionDef _ _ _ _ _ _ sc _ _ _ => sc
  | _ => { kind := .function, names := [], isGenerator := false, isCoroutine := false }

/-! ### no exception leaves a def -/
abbrev CX0 : CXT := fun _ _ _ _ _ _ => False
abbrev E0 : XK := fun _ _ _ => False
theorem pass0 {X : Cx} : Passes CX0 X E0 := fun _ _ _ _ _ _ _ h => h.elim

/-! ### a def (or method) of the text as it stands behind the top -/
structure Fun (K : PySem.W.Frag) (x qual : Str) (st : Stmt) (f : Addr) (fd : FuncData) : Prop where
  ex : ∃ (oc : Value) (od : Option Addr) (kV doc pm : Value) (an : Option Addr) (cdv ct : Value) (osl : Array (Option Value)),
    fd = PySem.W.fnOf x qual (defArgs st) (defBody st) (defScope st) .none kV doc pm an cdv ct ∧ K.lookup f = some ⟨oc, od, .func fd, osl⟩ ∧ PySem.W.codeIn K cdv qual = true
  kp : PySem.W.keepIn K (.ref f) = true
section
variable {P : Program} {w : World} {K : PySem.W.Frag} {mg : Str → Option Value} {base : Heap}
/-- THE RULE for a def: its body as a term of rules, and the reading of that term -/
theorem Fun.ok {x qual : Str} {st : Stmt} {f : Addr} {fd : FuncData} {N ps : List Str} {k : Nat} {sp : Sp} (F : Fun K x qual st f fd) (S : FnScope N ps (defScope st)) (len : ∀ vs H Q E, sp vs H Q E → vs.length = ps.length)
    (hbody : ∀ (cdv : Value) (A : Around) (outer : List Env) (s : Shared) (H : Hp) (vs : List V) (Q : VK) (E : XK), Room k (A.deeper (envOfC qual (defScope st) s.heap.objs.size f cdv)) → sp vs H Q E →
      ∃ t, PSs (cxOf CX0 P w K mg base N qual (defScope st) f cdv A outer s H E).nox (defBody st) t ∧ t { nx := fun _ H' => Q .non H', rt := Q } (start N vs) H) : FnOk P w K mg base CX0 (k + 1) f fd ps sp := by
  obtain ⟨oc, od, kV, doc, pm, an, cdv, ct, osl, rfl, lk, hcd⟩ := F.ex
  refine fn_of lk hcd S len fun A outer s H vs Q E hr hsp => ?_
  obtain ⟨t, h, q⟩ := hbody cdv A outer s H vs Q E hr hsp
  exact ⟨t, h.nox, q⟩
/-- how its arguments bind (no defaults): h is «fun _ _ _ _ _ _ us hl => match us, hl with | [_, _], _ => rfl», one _ a parameter -/
theorem Fun.binds {x qual : Str} {st : Stmt} {f : Addr} {fd : FuncData} {ps : List Str} (F : Fun K x qual st f fd)
    (h : ∀ (kV doc pm : Value) (an : Option Addr) (cdv ct : Value) (us : List Value), us.length = ps.length → bindArgs (PySem.W.fnOf x qual (defArgs st) (defBody st) (defScope st) .none kV doc pm an cdv ct) ⟨us, []⟩ = pure (ps.zip us)) : Binds K fd ps [] := by
  obtain ⟨oc, od, kV, doc, pm, an, cdv, ct, osl, rfl, lk, hcd⟩ := F.ex
  exact .all (h kV doc pm an cdv ct)
theorem fun_mk {x qual : Str} {st : Stmt} {f : Addr} {oc : Value} {od an : Option Addr} {osl : Array (Option Value)} {kV doc pm cdv ct : Value} (l : K.lookup f = some ⟨oc, od, .func (PySem.W.fnOf x qual (defArgs st) (defBody st) (defScope st) .none kV doc pm an cdv ct), osl⟩)
    (c : PySem.W.codeIn K cdv qual = true) (k : PySem.W.keepIn K (.ref f) = true) : Fun K x qual st f (PySem.W.fnOf x qual (defArgs st) (defBody st) (defScope st) .none kV doc pm an cdv ct) := ⟨⟨oc, od, kV, doc, pm, an, cdv, ct, osl, rfl, l, c⟩, k⟩
end
theorem hu_of {A : Around} {k : Nat} (hr : Room k A) : A.units + 1 < cLine := Nat.lt_of_le_of_lt (Nat.add_le_add_left (by decide : 1 ≤ 64) _) hr.units
theorem small1000 {n : Nat} (h : n ≤ 1000) : n < sizeLine := Nat.lt_of_le_of_lt h (by decide)

/-! ### expressions in short: the name that stands in the i-th slot -/
section
variable {X : Cx}
theorem pv (i : Nat) {x : Str} {pos : Pos} (hN : X.N[i]? = some x := by rfl) (hv : Vis X.env.scope x := by first | exact Or.inl rfl | exact Or.inr (Or.inl rfl) | exact Or.inr (Or.inr rfl)) (hd : (x == ("__debug__" : Str)) = false := by decide)
    (hcd : (x == ("__classdict__" : Str)) = false := by decide) : PE X (.Name x pos) (tVar i) := pe_var hN hv hd hcd
end

/-! ### tests -/
theorem iteF {A B : Prop} (h : B) : if false = true then A else B := by
  rw [if_neg Bool.false_ne_true]
  exact h
theorem iteT {A B : Prop} (h : A) : if true = true then A else B := by
  rw [if_pos rfl]
  exact h
theorem ite2 {c A B : Prop} [Decidable c] (h1 : c → A) (h2 : ¬ c → B) : if c then A else B := by
  by_cases h : c
  · rw [if_pos h]
    exact h1 h
  · rw [if_neg h]
    exact h2 h
theorem iteNS {c A B : Prop} [Decidable c] (hc : c) (h : B) : if (!decide c) = true then A else B := by
  rw [decide_eq_true hc]
  exact iteF h

/-! ### heaps -/
/-- all that was tracked is as it was -/
def Same (H H' : Hp) : Prop := ∀ b o, H b = some o → H' b = some o
theorem Same.refl (H : Hp) : Same H H := fun _ _ h => h
theorem Same.trans {H H1 H2 : Hp} (a : Same H H1) (b : Same H1 H2) : Same H H2 := fun c o h => b c o (a c o h)
theorem Same.free {H H' : Hp} (e : Same H H') {l : Addr} (h : H' l = Option.none) : H l = Option.none := by
  cases q : H l with
  | none => rfl
  | some o =>
    rw [e l o q] at h
    cases h
theorem Same.seq {K : PySem.W.Frag} {H H' : Hp} {a : Addr} {xs : List V} (e : Same H H') (h : SqL K H a xs) : SqL K H' a xs := by
  rcases h with (h | ⟨o, h⟩) | h
  · exact .inl (.inl (e _ _ h))
  · exact .inl (.inr ⟨o, e _ _ h⟩)
  · exact .inr h

end L2

set_option Elab.async false
set_option linter.all false
set_option maxRecDepth 100000
namespace L2
open PySem PySem.Spec PyProof.Rows

/-! ### lists of pairs as tables -/
section
variable {κ : Type} [DecidableEq κ]
def valV (kvs : List (κ × V)) (k : κ) : Option V := (kvs.find? fun kv => decide (kv.1 = k)).map (·.2)
/-- in its place, or at the end -/
def putK (kvs : List (κ × V)) (k : κ) (v : V) : List (κ × V) :=
  if (kvs.any fun kv => decide (kv.1 = k)) = true then kvs.map (fun kv => if kv.1 = k then (kv.1, v) else kv) else kvs ++ [(k, v)]
def dropK (kvs : List (κ × V)) (k : κ) : List (κ × V) := kvs.filter fun kv => decide (kv.1 ≠ k)

theorem valV_nil {k : κ} : valV ([] : List (κ × V)) k = none := rfl
theorem valV_pos {p : κ × V} {r : List (κ × V)} {k : κ} (e : p.1 = k) : valV (p :: r) k = some p.2 := by simp [valV, List.find?_cons, e]
theorem valV_neg {p : κ × V} {r : List (κ × V)} {k : κ} (e : ¬ p.1 = k) : valV (p :: r) k = valV r k := by simp [valV, List.find?_cons, e]
theorem valV_any (k : κ) : ∀ kvs : List (κ × V), (kvs.any fun kv => decide (kv.1 = k)) = (valV kvs k).isSome
  | [] => rfl
  | p :: r => by
    rw [List.any_cons]
    by_cases e : p.1 = k
    · simp only [valV_pos e, decide_eq_true e, Bool.true_or, Option.isSome_some]
    · rw [valV_neg e, decide_eq_false e, Bool.false_or]; exact valV_any k r
theorem valV_map (k j : κ) (y : V) : ∀ kvs : List (κ × V), valV (kvs.map fun kv => if kv.1 = k then (kv.1, y) else kv) j = (valV kvs j).map fun x => if j = k then y else x
  | [] => rfl
  | p :: r => by
    have ih := valV_map k j y r
    rw [List.map_cons]
    by_cases h : p.1 = k
    · rw [if_pos h]
      by_cases e : p.1 = j
      · rw [valV_pos (p := (p.1, y)) e, valV_pos e, Option.map_some, if_pos (e.symm.trans h)]
      · rw [valV_neg (p := (p.1, y)) e, valV_neg e, ih]
    · rw [if_neg h]
      by_cases e : p.1 = j
      · rw [valV_pos (p := p) e, valV_pos e, Option.map_some, if_neg (fun z => h (e.trans z))]
      · rw [valV_neg (p := p) e, valV_neg e, ih]
theorem valV_snoc (k j : κ) (y : V) : ∀ kvs : List (κ × V), valV kvs k = none → valV (kvs ++ [(k, y)]) j = if j = k then some y else valV kvs j
  | [], _ => by
    by_cases e : k = j
    · rw [if_pos e.symm]; exact valV_pos (p := (k, y)) e
    · rw [if_neg (fun z => e z.symm)]; exact valV_neg (p := (k, y)) e
  | p :: r, hn => by
    rw [List.cons_append]
    have hk : ¬ p.1 = k := fun z => by rw [valV_pos z] at hn; cases hn
    rw [valV_neg hk] at hn
    have ih := valV_snoc k j y r hn
    by_cases e : p.1 = j
    · rw [valV_pos e, valV_pos e, if_neg (fun z => hk (e.trans z))]
    · rw [valV_neg e, valV_neg e, ih]
theorem valV_put (kvs : List (κ × V)) (k j : κ) (y : V) : valV (putK kvs k y) j = if j = k then some y else valV kvs j := by
  unfold putK
  by_cases a : (kvs.any fun kv => decide (kv.1 = k)) = true
  · rw [if_pos a, valV_map]
    rw [valV_any] at a
    by_cases e : j = k
    · obtain ⟨x, hx⟩ := Option.isSome_iff_exists.mp a
      rw [if_pos e, e, hx, Option.map_some, if_pos rfl]
    · rw [if_neg e]
      cases valV kvs j with
      | none => rfl
      | some x => rw [Option.map_some, if_neg e]
  · rw [if_neg a]
    refine valV_snoc k j y kvs ?_
    rw [valV_any] at a
    cases q : valV kvs k with
    | none => rfl
    | some x => rw [q] at a; exact (a rfl).elim
theorem length_putK (kvs : List (κ × V)) (k : κ) (v : V) : (putK kvs k v).length ≤ kvs.length + 1 := by
  unfold putK
  split
  · rw [List.length_map]; omega
  · rw [List.length_append, List.length_cons, List.length_nil]; omega
theorem putK_new {kvs : List (κ × V)} {k : κ} (v : V) (h : valV kvs k = none) : putK kvs k v = kvs ++ [(k, v)] := by
  unfold putK
  rw [valV_any, h]
  exact if_neg (by decide)

theorem RelO.isSome_eq {o : Option V} {u : Option Value} (r : RelO o u) : o.isSome = u.isSome := by
  cases o with
  | none => cases u with
    | none => rfl
    | some _ => exact (show False from r).elim
  | some _ => cases u with
    | none => exact (show False from r).elim
    | some _ => rfl
theorem RelO.getD {o : Option V} {u : Option Value} {d : V} {d' : Value} (r : RelO o u) (rd : RelV d d') : RelV (o.getD d) (u.getD d') := by
  cases o with
  | none => cases u with
    | none => exact rd
    | some _ => exact (show False from r).elim
  | some _ => cases u with
    | none => exact (show False from r).elim
    | some _ => exact r

/-- raw tables of the same keys -/
theorem KV.val {kvs : List (κ × V)} {vs : List (κ × Value)} (r : KV kvs vs) (k : κ) : RelO (valV kvs k) (valueAt vs k) := by
  unfold KV at r
  induction r with
  | nil => exact True.intro
  | @cons p q ps qs h t ih =>
    obtain ⟨h1, h2⟩ := h
    by_cases e : p.1 = k
    · have e' : q.1 = k := h1.symm.trans e
      have b : valueAt (q :: qs) k = some q.2 := by simp [valueAt, List.find?_cons, e']
      rw [valV_pos e, b]; exact h2
    · have e' : ¬ q.1 = k := fun z => e (h1.trans z)
      have b : valueAt (q :: qs) k = valueAt qs k := by simp [valueAt, List.find?_cons, e']
      rw [valV_neg e, b]; exact ih
theorem KV.any {kvs : List (κ × V)} {vs : List (κ × Value)} (r : KV kvs vs) (k : κ) : (kvs.any fun kv => decide (kv.1 = k)) = vs.any fun kv => decide (kv.1 = k) := by
  unfold KV at r
  induction r with
  | nil => rfl
  | cons h t ih => rw [List.any_cons, List.any_cons, ih, h.1]
theorem KV.repl {kvs : List (κ × V)} {vs : List (κ × Value)} (r : KV kvs vs) (k : κ) {y : V} {u : Value} (ry : RelV y u) :
    KV (kvs.map fun kv => if kv.1 = k then (kv.1, y) else kv) (vs.map fun kv => if kv.1 = k then (kv.1, u) else kv) := by
  unfold KV at r ⊢
  induction r with
  | nil => exact .nil
  | @cons p q ps qs h t ih =>
    rw [List.map_cons, List.map_cons]
    refine .cons ?_ ih
    obtain ⟨h1, h2⟩ := h
    by_cases e : p.1 = k
    · rw [if_pos e, if_pos (h1.symm.trans e)]; exact ⟨h1, ry⟩
    · rw [if_neg e, if_neg (fun z => e (h1.trans z))]; exact ⟨h1, h2⟩
theorem KV.put {kvs : List (κ × V)} {vs : List (κ × Value)} (r : KV kvs vs) (k : κ) {y : V} {u : Value} (ry : RelV y u) : KV (putK kvs k y) (stored vs k u) := by
  unfold putK stored
  rw [r.any k]
  by_cases e : (vs.any fun kv => decide (kv.1 = k)) = true
  · rw [if_pos e, if_pos e]; exact r.repl k ry
  · rw [if_neg e, if_neg e]; exact Paired.snoc r ⟨rfl, ry⟩
theorem KV.drop {kvs : List (κ × V)} {vs : List (κ × Value)} (r : KV kvs vs) (k : κ) : KV (dropK kvs k) (without vs k) := by
  unfold KV at r ⊢
  unfold dropK without
  induction r with
  | nil => exact .nil
  | @cons p q ps qs h t ih =>
    obtain ⟨h1, h2⟩ := h
    rw [List.filter_cons, List.filter_cons]
    by_cases e : p.1 = k
    · have a : ¬ decide (p.1 ≠ k) = true := by simp [e]
      have b : ¬ decide (q.1 ≠ k) = true := by simp [h1.symm.trans e]
      rw [if_neg a, if_neg b]; exact ih
    · have e' : ¬ q.1 = k := fun z => e (h1.trans z)
      have a : decide (p.1 ≠ k) = true := by simp [e]
      have b : decide (q.1 ≠ k) = true := by simp [e']
      rw [if_pos a, if_pos b]; exact .cons ⟨h1, h2⟩ ih
theorem KV.keys {kvs : List (κ × V)} {vs : List (κ × Value)} (r : KV kvs vs) : kvs.map (·.1) = vs.map (·.1) := by
  unfold KV at r
  induction r with
  | nil => rfl
  | cons h t ih => rw [List.map_cons, List.map_cons, ih, h.1]
theorem KV.length {kvs : List (κ × V)} {vs : List (κ × Value)} (r : KV kvs vs) : kvs.length = vs.length := Paired.length r
theorem dropK_le (kvs : List (κ × V)) (k : κ) : (dropK kvs k).length ≤ kvs.length := List.length_filter_le _ _
end


/-! ### a tracked dict, its keys ints and texts or tuples of these -/
theorem kV_is {P : Program} {w : World} {k : Key} {u : Value} (r : RelV (kV k) u) : (mixKind P w).is k u = true := by
  cases k with
  | inl i => obtain ⟨t, e⟩ := (show ∃ t, u = Value.int i t from r); subst e; exact mixKind_int P w i t
  | inr x => obtain ⟨t, e⟩ := (show ∃ t, u = Value.str x t from r); subst e; exact mixKind_str P w x t
theorem kV_inj {a b : Key} (e : kV a = kV b) : a = b := by
  cases a with
  | inl i => cases b with
    | inl j => have e' : V.int i = V.int j := e; injection e' with e'; rw [e']
    | inr y => exact nomatch (show V.int i = V.str y from e)
  | inr x => cases b with
    | inl j => exact nomatch (show V.str x = V.int j from e)
    | inr y => have e' : V.str x = V.str y := e; injection e' with e'; rw [e']
theorem kVs_inj : ∀ {a b : List Key}, a.map kV = b.map kV → a = b
  | [], [], _ => rfl
  | [], _ :: _, e => by simp at e
  | _ :: _, [], e => by simp at e
  | x :: xs, y :: ys, e => by
    rw [List.map_cons, List.map_cons] at e
    injection e with e1 e2
    rw [kV_inj e1, kVs_inj e2]
theorem items_are {P : Program} {w : World} : ∀ {ks : List Key} {us : List Value}, Vals (ks.map kV) us → ItemsAre (mixKind P w) ks us
  | [], _, r => by rw [List.map_nil] at r; cases r; exact .nil
  | k :: ks, _, r => by
    rw [List.map_cons] at r
    cases r with
    | cons h t => exact .cons (kV_is h) (items_are t)

/-- raw entries of a dict with tuple keys -/
abbrev KT (H : Hp) : List (List Key × V) → List (List Key × Addr × Value) → Prop := Paired fun p q => p.1 = q.1 ∧ H q.2.1 = some (.tup (p.1.map kV)) ∧ RelV p.2 q.2.2
theorem KT.val {H : Hp} {kvs : List (List Key × V)} {xs : List (List Key × Addr × Value)} (r : KT H kvs xs) (k : List Key) : RelO (valV kvs k) ((atKey xs k).map (·.2)) := by
  induction r with
  | nil => exact True.intro
  | @cons p q ps qs h t ih =>
    obtain ⟨h1, _, h2⟩ := h
    by_cases e : p.1 = k
    · have e' : q.1 = k := h1.symm.trans e
      have b : atKey (q :: qs) k = some q.2 := by simp [atKey, List.find?_cons, e']
      rw [valV_pos e, b]; exact h2
    · have e' : ¬ q.1 = k := fun z => e (h1.trans z)
      have b : atKey (q :: qs) k = atKey qs k := by simp [atKey, List.find?_cons, e']
      rw [valV_neg e, b]; exact ih
theorem KT.repl {H : Hp} {kvs : List (List Key × V)} {xs : List (List Key × Addr × Value)} (r : KT H kvs xs) (k : List Key) {y : V} {u : Value} (ry : RelV y u) :
    KT H (kvs.map fun kv => if kv.1 = k then (kv.1, y) else kv) (xs.map (putAt k u)) := by
  induction r with
  | nil => exact .nil
  | @cons p q ps qs h t ih =>
    rw [List.map_cons, List.map_cons]
    refine .cons ?_ ih
    obtain ⟨h1, h2, h3⟩ := h
    unfold putAt
    by_cases e : p.1 = k
    · rw [if_pos e, if_pos (h1.symm.trans e)]; exact ⟨h1, h2, ry⟩
    · rw [if_neg e, if_neg (fun z => e (h1.trans z))]; exact ⟨h1, h2, h3⟩
theorem KT.put {H : Hp} {kvs : List (List Key × V)} {xs : List (List Key × Addr × Value)} (r : KT H kvs xs) (k : List Key) {b : Addr} {y : V} {u : Value} (hb : H b = some (.tup (k.map kV))) (ry : RelV y u) :
    KT H (putK kvs k y) (storedH xs k b u) := by
  have e : (kvs.any fun kv => decide (kv.1 = k)) = (atKey xs k).isSome := by
    rw [valV_any, (r.val k).isSome_eq, Option.isSome_map]
  unfold putK storedH
  rw [e]
  by_cases q : (atKey xs k).isSome = true
  · rw [if_pos q, if_pos q]; exact r.repl k ry
  · rw [if_neg q, if_neg q]; exact Paired.snoc r ⟨rfl, hb, ry⟩
theorem KT.keeps {H H' : Hp} {kvs : List (List Key × V)} {xs : List (List Key × Addr × Value)} (r : KT H kvs xs) (ht : ∀ b ys, H b = some (.tup ys) → H' b = some (.tup ys)) : KT H' kvs xs :=
  Paired.mapP r fun _ _ z => ⟨z.1, ht _ _ z.2.1, z.2.2⟩

section
variable {P : Program} {w : World} {H : Hp} {h : Heap} {a : Addr}
theorem rd_of {u : HO} (ok : HOk P w H h) (e : Rd H a u) : ObjOk P w H h a u := e.ok ok
theorem dk_rd {kvs : List (Key × V)} (ok : HOk P w H h) (e : Rd H a (.dK kvs)) : kvs.length ≤ sizeLine ∧ (a == sysModules) = false ∧ ∃ vs, KV kvs vs ∧ h.DictOf (mixKind P w) a vs :=
  show ObjOk P w H h a (.dK kvs) from rd_of ok e
theorem dk_of {kvs : List (Key × V)} (ok : HOk P w H h) (e : H a = some (.dK kvs)) : kvs.length ≤ sizeLine ∧ (a == sysModules) = false ∧ ∃ vs, KV kvs vs ∧ h.DictOf (mixKind P w) a vs := dk_rd ok (.inl e)
/-- a tracked tuple of ints and texts is a key -/
theorem key_of {ks : List Key} (ok : HOk P w H h) (e : H a = some (.tup (ks.map kV))) : (tupleKind (mixKind P w)).is h ks a := by
  obtain ⟨_, its, r, o, h1, h2, n, h3⟩ := (show ObjOk P w H h a (.tup (ks.map kV)) from ok a _ e)
  exact ⟨o, its.toArray, n, h1, h2, h3, by simpa using items_are r⟩
theorem dt_rd {kvs : List (List Key × V)} (ok : HOk P w H h) (e : Rd H a (.dT kvs)) : kvs.length ≤ sizeLine ∧ (a == sysModules) = false ∧
    ∃ xs, KT H kvs xs ∧ h.DictOfH (tupleKind (mixKind P w)) a xs := by
  obtain ⟨z, y, xs, r, o, es, ep, h1, h2, h3, h4, h5⟩ := (show ObjOk P w H h a (.dT kvs) from rd_of ok e)
  refine ⟨z, y, xs, r, o, es, ep, h1, h2, h3, h4, fun x hx => ?_, h5⟩
  have all : ∀ {l : List (List Key × V)} {m : List (List Key × Addr × Value)}, KT H l m → ∀ x ∈ m, (tupleKind (mixKind P w)).is h x.1 x.2.1 := by
    intro l m q
    induction q with
    | nil => intro x hx; exact nomatch hx
    | @cons p q ps qs hq t ih =>
      intro x hx
      rcases List.mem_cons.mp hx with e | hx
      · subst e
        exact key_of ok (by rw [← hq.1]; exact hq.2.1)
      · exact ih x hx
  exact all r x hx
theorem dt_of {kvs : List (List Key × V)} (ok : HOk P w H h) (e : H a = some (.dT kvs)) : kvs.length ≤ sizeLine ∧ (a == sysModules) = false ∧
    ∃ xs, KT H kvs xs ∧ h.DictOfH (tupleKind (mixKind P w)) a xs := dt_rd ok (.inl e)
end

/-- what the dict at a holds at the key y -/
def DGet (H : Hp) (a : Addr) (y : V) (r : Option V) : Prop :=
  (∃ kvs k, Rd H a (.dK kvs) ∧ y = kV k ∧ r = valV kvs k) ∨ ∃ kvs k b, Rd H a (.dT kvs) ∧ y = .ref b ∧ H b = some (.tup (k.map kV)) ∧ r = valV kvs k
/-- the heap behind a[y] = v -/
def DPut (H : Hp) (a : Addr) (y v : V) (H' : Hp) : Prop :=
  (∃ kvs k, H a = some (.dK kvs) ∧ y = kV k ∧ kvs.length < sizeLine ∧ H' = upd H a (.dK (putK kvs k v))) ∨
  ∃ kvs k b, H a = some (.dT kvs) ∧ y = .ref b ∧ H b = some (.tup (k.map kV)) ∧ kvs.length < sizeLine ∧ H' = upd H a (.dT (putK kvs k v))
theorem DGet.k {H : Hp} {a : Addr} {kvs : List (Key × V)} {k : Key} (e : H a = some (.dK kvs)) : DGet H a (kV k) (valV kvs k) := .inl ⟨kvs, k, .inl e, rfl, rfl⟩
theorem DGet.t {H : Hp} {a b : Addr} {kvs : List (List Key × V)} {k : List Key} (e : H a = some (.dT kvs)) (eb : H b = some (.tup (k.map kV))) : DGet H a (.ref b) (valV kvs k) := .inr ⟨kvs, k, b, .inl e, rfl, eb, rfl⟩
theorem DPut.k {H : Hp} {a : Addr} {kvs : List (Key × V)} {k : Key} {v : V} (e : H a = some (.dK kvs)) (hl : kvs.length < sizeLine) : DPut H a (kV k) v (upd H a (.dK (putK kvs k v))) := .inl ⟨kvs, k, e, rfl, hl, rfl⟩
theorem DPut.t {H : Hp} {a b : Addr} {kvs : List (List Key × V)} {k : List Key} {v : V} (e : H a = some (.dT kvs)) (eb : H b = some (.tup (k.map kV))) (hl : kvs.length < sizeLine) :
    DPut H a (.ref b) v (upd H a (.dT (putK kvs k v))) := .inr ⟨kvs, k, b, e, rfl, eb, hl, rfl⟩


section
variable {X : Cx} {pins : List (Addr × Obj)} {σ : St} {H : Hp} {s : Shared} {a : Addr} {y v : V} {u r : Value} {o : Option V} {A : Around} {E : Value → Shared → Prop}

theorem Inv.big (I : Inv X pins σ H s) : sysModules < s.heap.objs.size := by
  have h : mainGlobals < s.heap.objs.size := (I.mod.glob.keeps I.bk).lt
  exact Nat.lt_trans (by decide) h

/-- d[y], there -/
theorem d_getItem {Q : Value → Shared → Prop} (hu : A.units + 1 < cLine) (I : Inv X pins σ H s) (g : DGet H a y (some v)) (ry : RelV y u) (h : ∀ w' s', Inv X pins σ H s' → RelV v w' → Q w' s') :
    wpAny (model X.prog X.w) A (getItem (.ref a) u) Q E s := by
  rcases g with ⟨kvs, k, e, ey, l⟩ | ⟨kvs, k, b, e, ey, eb, l⟩
  · subst ey
    obtain ⟨z, hd, vs, rel, dd⟩ := dk_rd I.hok e
    obtain ⟨w', hw, rw'⟩ := RelO.some_of (v := v) (o := valueAt vs k) (by rw [l]; exact rel.val k)
    exact wpAny_getItem_of (kV_is ry) dd.mapOf hw (h w' _ (I.tok _) rw')
  · subst ey
    cases (show u = Value.ref b from ry)
    obtain ⟨z, hd, xs, rel, dd⟩ := dt_rd I.hok e
    obtain ⟨w', hw, rw'⟩ := RelO.some_of (v := v) (o := (atKey xs k).map (·.2)) (by rw [l]; exact rel.val k)
    obtain ⟨p, hp, hp2⟩ := Option.map_eq_some_iff.mp hw
    refine wpAny_getItem_heap (tupleKind_room_in1 hu) (key_of I.hok eb) dd hp ?_
    rw [hp2]
    exact h w' _ (I.tok _) rw'
/-- y in d -/
theorem d_in {Q : Value → Shared → Prop} (hu : A.units + 1 < cLine) (I : Inv X pins σ H s) (g : DGet H a y o) (ry : RelV y u) (h : ∀ s', Inv X pins σ H s' → Q (.bool o.isSome) s') :
    wpAny (model X.prog X.w) A (compareOp .In u (.ref a)) Q E s := by
  rcases g with ⟨kvs, k, e, ey, l⟩ | ⟨kvs, k, b, e, ey, eb, l⟩
  · subst ey
    obtain ⟨z, hd, vs, rel, dd⟩ := dk_rd I.hok e
    refine wpAny_in_of (kV_is ry) hd dd.mapOf ?_
    rw [← (rel.val k).isSome_eq, ← l]
    exact h _ (I.tok _)
  · subst ey
    cases (show u = Value.ref b from ry)
    obtain ⟨z, hd, xs, rel, dd⟩ := dt_rd I.hok e
    refine wpAny_in_heap (tupleKind_room_in1 hu) (key_of I.hok eb) hd dd ?_
    have q := (rel.val k).isSome_eq
    rw [Option.isSome_map] at q
    rw [← q, ← l]
    exact h _ (I.tok _)
theorem d_notIn {Q : Value → Shared → Prop} (hu : A.units + 1 < cLine) (I : Inv X pins σ H s) (g : DGet H a y o) (ry : RelV y u) (h : ∀ s', Inv X pins σ H s' → Q (.bool (!o.isSome)) s') :
    wpAny (model X.prog X.w) A (compareOp .NotIn u (.ref a)) Q E s := by
  rcases g with ⟨kvs, k, e, ey, l⟩ | ⟨kvs, k, b, e, ey, eb, l⟩
  · subst ey
    obtain ⟨z, hd, vs, rel, dd⟩ := dk_rd I.hok e
    refine wpAny_notIn_of (kV_is ry) hd dd.mapOf ?_
    rw [← (rel.val k).isSome_eq, ← l]
    exact h _ (I.tok _)
  · subst ey
    cases (show u = Value.ref b from ry)
    obtain ⟨z, hd, xs, rel, dd⟩ := dt_rd I.hok e
    refine wpAny_notIn_heap (tupleKind_room_in1 hu) (key_of I.hok eb) hd dd ?_
    have q := (rel.val k).isSome_eq
    rw [Option.isSome_map] at q
    rw [← q, ← l]
    exact h _ (I.tok _)
/-- a dict's object is replaced -/
theorem d_write {h' : Heap} {t' : Nat} {ob : HO} (I : Inv X pins σ H s) (mu : Mut (H a)) (hs : Heap.SameBut a s.heap h') (he : ∃ q, h'.get? a = some q) (new : ObjOk X.prog X.w (upd H a ob) h' a ob) :
    Inv X pins σ (upd H a ob) { s with heap := h', toks := t' } :=
  I.write (x := a) (e := a) mu (.inl rfl) (fun b q hb z => (hs.2 b hb).trans z) he new
theorem dk_new {P : Program} {w : World} {H' : Hp} {h' : Heap} {kvs : List (Key × V)} {vs : List (Key × Value)} (z : kvs.length ≤ sizeLine) (hd : (a == sysModules) = false) (rel : KV kvs vs) (dd : h'.DictOf (mixKind P w) a vs) :
    ObjOk P w H' h' a (.dK kvs) := ⟨z, hd, vs, rel, dd⟩
/-- d[y] = v -/
theorem d_setItem {H' : Hp} {Q : Unit → Shared → Prop} (hu : A.units + 1 < cLine) (I : Inv X pins σ H s) (g : DPut H a y v H') (ry : RelV y u) (rv : RelV v r) (h : ∀ s', Inv X pins σ H' s' → Q () s') :
    wpAny (model X.prog X.w) A (setItem (.ref a) u r) Q E s := by
  rcases g with ⟨kvs, k, e, ey, l, eH⟩ | ⟨kvs, k, b, e, ey, eb, l, eH⟩
  · subst ey eH
    obtain ⟨z, hd, vs, rel, dd⟩ := dk_of I.hok e
    have hz : vs.length ≤ sizeLine := by rw [← rel.length]; exact z
    have hl : (putK kvs k v).length ≤ sizeLine := by have := length_putK kvs k v; omega
    refine wpAny_setItem_pairs (hsz := hz) (kV_is ry) dd fun h' dd' hs => h _ ?_
    have he : ∃ q, h'.get? a = some q := let ⟨q, _, _, hq, _⟩ := dd'; ⟨q, hq⟩
    exact d_write I (by rw [e]; exact True.intro) hs he (dk_new hl hd (rel.put k rv) dd')
  · subst ey eH
    cases (show u = Value.ref b from ry)
    obtain ⟨z, hd, xs, rel, dd⟩ := dt_of I.hok e
    have hz : xs.length ≤ sizeLine := by rw [← Paired.length rel]; exact z
    have hl : (putK kvs k v).length ≤ sizeLine := by have := length_putK kvs k v; omega
    refine wpAny_setItem_heap (hsz := hz) (tupleKind_room_in1 hu) (key_of I.hok eb) dd fun h' dd' hs => h _ ?_
    obtain ⟨q, es, ep, hq, h2, h3, h4, _, h5⟩ := dd'
    refine d_write I (by rw [e]; exact True.intro) hs ⟨q, hq⟩ ⟨hl, hd, _, (rel.put k eb rv).keeps fun c ys ec => ?_, q, es, ep, hq, h2, h3, h4, h5⟩
    rw [upd_ne (ne_of ec e (fun z => nomatch z))]
    exact ec
end

section
variable {X : Cx} {pins : List (Addr × Obj)} {σ : St} {H : Hp} {s : Shared} {a : Addr} {kvs : List (Key × V)} {k : Key} {u : Value} {A : Around} {E : Value → Shared → Prop}
/-- del d[k] -/
theorem d_delItem {Q : Unit → Shared → Prop} (I : Inv X pins σ H s) (e : H a = some (.dK kvs)) (ry : RelV (kV k) u) (l : (valV kvs k).isSome = true) (h : ∀ s', Inv X pins σ (upd H a (.dK (dropK kvs k))) s' → Q () s') :
    wpAny (model X.prog X.w) A (delItem (.ref a) u) Q E s := by
  obtain ⟨z, hd, vs, rel, dd⟩ := dk_of I.hok e
  refine wpAny_delItem_slot dd.typeIs (by decide) PySem.F.slot_dict_delitem
    (call_meetsIn PySem.F.slot_dict_delitem dd.typeIs PySem.F.entry_dict_delitem (PySem.F.args_dict_delitem_2 _ _) (meets_dict_delitem_pairs (mixKind X.prog X.w) a (kV_is ry)) ⟨vs, dd, by rw [← rel.length]; exact z, by rw [← (rel.val k).isSome_eq]; exact l, fun h' dd' hs => h _ ?_⟩)
  have he : ∃ q, h'.get? a = some q := let ⟨q, _, _, hq, _⟩ := dd'; ⟨q, hq⟩
  exact d_write I (by rw [e]; exact True.intro) hs he (dk_new (Nat.le_trans (dropK_le kvs k) z) hd (rel.drop k) dd')
/-- d.pop(k[, x]), there -/
theorem d_pop {v : V} {more : List Value} {Q : Value → Shared → Prop} (I : Inv X pins σ H s) (e : H a = some (.dK kvs)) (ry : RelV (kV k) u) (l : valV kvs k = some v) (hm : more = [] ∨ ∃ x, more = [x])
    (h : ∀ w' s', Inv X pins σ (upd H a (.dK (dropK kvs k))) s' → RelV v w' → Q w' s') : wpAny (model X.prog X.w) A (call (.builtin "dict.pop") (.ref a :: u :: more)) Q E s := by
  obtain ⟨z, hd, vs, rel, dd⟩ := dk_of I.hok e
  obtain ⟨w', hw, rw'⟩ := RelO.some_of (v := v) (o := valueAt vs k) (by rw [← l]; exact rel.val k)
  have hp : (keyPart u).isSome = true := by
    cases k with
    | inl i => obtain ⟨t, q⟩ := (show ∃ t, u = Value.int i t from ry); subst q; rfl
    | inr x => obtain ⟨t, q⟩ := (show ∃ t, u = Value.str x t from ry); subst q; rfl
  have ha : argsOk "dict.pop" ⟨.ref a :: u :: more, []⟩ := by
    rcases hm with q | ⟨x, q⟩
    · subst q; exact PySem.F.args_dict_pop_2 _ _
    · subst q; exact PySem.F.args_dict_pop_3 _ _ _
  refine call_meetsIn PySem.F.slot_dict_pop dd.typeIs PySem.F.entry_dict_pop ha (meets_dict_pop_there (mixKind X.prog X.w) a (kV_is ry) more hm hp)
    ⟨vs, w', dd, by rw [← rel.length]; exact z, hw, fun h' dd' hs => h w' _ ?_ rw'⟩
  have he : ∃ q, h'.get? a = some q := let ⟨q, _, _, hq, _⟩ := dd'; ⟨q, hq⟩
  exact d_write I (by rw [e]; exact True.intro) hs he (dk_new (Nat.le_trans (dropK_le kvs k) z) hd (rel.drop k) dd')
/-- d.pop(k, x), not there -/
theorem d_popD {r : Value} {Q : Value → Shared → Prop} (I : Inv X pins σ H s) (e : H a = some (.dK kvs)) (ry : RelV (kV k) u) (l : valV kvs k = none) (h : ∀ s', Inv X pins σ H s' → Q r s') :
    wpAny (model X.prog X.w) A (call (.builtin "dict.pop") [.ref a, u, r]) Q E s := by
  obtain ⟨z, hd, vs, rel, dd⟩ := dk_of I.hok e
  have hn : valueAt vs k = none := RelO.none_of (by rw [← l]; exact rel.val k)
  have hp : (keyPart u).isSome = true := by
    cases k with
    | inl i => obtain ⟨t, q⟩ := (show ∃ t, u = Value.int i t from ry); subst q; rfl
    | inr x => obtain ⟨t, q⟩ := (show ∃ t, u = Value.str x t from ry); subst q; rfl
  exact call_meetsIn PySem.F.slot_dict_pop dd.typeIs PySem.F.entry_dict_pop (PySem.F.args_dict_pop_3 _ _ _) (meets_dict_pop_default (mixKind X.prog X.w) a (kV_is ry) hd hp r) ⟨vs, dd, hn, h _ (I.tok _)⟩
/-- d.clear() -/
theorem d_clear {Q : Value → Shared → Prop} (I : Inv X pins σ H s) (e : H a = some (.dK kvs)) (h : ∀ s', Inv X pins σ (upd H a (.dK [])) s' → Q .none s') : wpAny (model X.prog X.w) A (call (.builtin "dict.clear") [.ref a]) Q E s := by
  obtain ⟨z, hd, vs, rel, dd⟩ := dk_of I.hok e
  refine call_meetsIn PySem.F.slot_dict_clear dd.typeIs PySem.F.entry_dict_clear (PySem.F.args_dict_clear_1 _) (meets_dict_clear (mixKind X.prog X.w) a) ⟨vs, dd, by rw [← rel.length]; exact z, fun h' dd' hs => h _ ?_⟩
  have he : ∃ q, h'.get? a = some q := let ⟨q, _, _, hq, _⟩ := dd'; ⟨q, hq⟩
  exact d_write (t' := s.toks) I (by rw [e]; exact True.intro) hs he (dk_new (Nat.zero_le _) hd .nil dd')
/-- len(d) -/
theorem d_len {Q : Value → Shared → Prop} (I : Inv X pins σ H s) (e : Rd H a (.dK kvs)) (h : ∀ t s', Inv X pins σ H s' → Q (.int kvs.length t) s') : wpAny (model X.prog X.w) A (call (.builtin "len") [.ref a]) Q E s := by
  obtain ⟨z, hd, vs, rel, dd⟩ := dk_rd I.hok e
  refine call_len_dict hd dd (by rw [← rel.length]; rw [sizeLine_eq] at z; omega) ?_
  rw [← rel.length]
  exact h _ _ (I.tok _)
/-- if d -/
theorem d_truth {Q : Bool → Shared → Prop} (I : Inv X pins σ H s) (e : Rd H a (.dK kvs)) (h : ∀ s', Inv X pins σ H s' → Q (!kvs.isEmpty) s') : wpAny (model X.prog X.w) A (truthy (.ref a)) Q E s := by
  obtain ⟨z, hd, vs, rel, dd⟩ := dk_rd I.hok e
  refine wpAny_truthy_dict hd dd (by rw [← rel.length]; rw [sizeLine_eq] at z; omega) ?_
  have q : kvs.isEmpty = vs.isEmpty := by cases rel <;> rfl
  rw [← q]
  exact h _ (I.tok _)
end


/-! ### readings and rules -/
/-- the element of a subscription, not a slice -/
def NoSl (i : Expr) : Prop := ∀ ov iv, subscripted i false ov iv = operate [ov, iv] (getItem ov iv)
theorem subD_of {prog : Program} {w : World} {A : Around} {E : Value → Shared → Prop} {s : Shared} {env : Env} {value slice : Expr} {pos : Pos} {T id : String} {Q : Value → Shared → Prop}
    (hl : typeLookup (.type T) "__getitem__" = pure (some (.builtin id))) (hs : NoSl slice)
    (h : wpAny (model prog w) A (eval value env) (fun o s₁ => wpAny (model prog w) A (eval slice env) (fun i s₂ => s₂.TypeIs o T ∧ wpAny (model prog w) A (getItem o i) Q E s₂) E s₁) E s) :
    wpAny (model prog w) A (eval (.Subscript value slice pos) env) Q E s := by
  refine Subscript_ (wpAny_mono h (fun o s₁ h₁ => wpAny_mono h₁ (fun i s₂ h₂ => ?_) fun _ _ x => x) fun _ _ x => x)
  obtain ⟨hT, h₂⟩ := h₂
  unfold subscriptTail
  refine wpAny_bind ?_
  rw [getitemInPython_of_ne hT.not_modules]
  refine wpAny_bind (wpAny_specialOf hT hl ?_)
  have fin : wpAny (model prog w) A (subscripted slice false o i) (fun r s₃ => wpAny (model prog w) A (letTemporaryGo value o r >>= fun _ => pure r) Q E s₃) E s₂ := by
    rw [hs o i]
    exact wpAny_operating (wpAny_mono h₂ (fun r s₃ h₃ => wpAny_bind (wpAny_letTemporaryGo (wpAny_pure h₃))) fun _ _ x => x)
  first
    | exact wpAny_pure (wpAny_bind fin)
    | exact wpAny_bind (wpAny_pure (wpAny_bind fin))
    | exact wpAny_bind fin

theorem dict_typeIs {X : Cx} {pins : List (Addr × Obj)} {σ : St} {H : Hp} {s : Shared} {a : Addr} {y : V} {o : Option V} (I : Inv X pins σ H s) (g : DGet H a y o) : s.TypeIs (.ref a) "dict" := by
  rcases g with ⟨kvs, k, e, _, _⟩ | ⟨kvs, k, b, e, _, _, _⟩
  · obtain ⟨_, _, vs, _, dd⟩ := dk_rd I.hok e
    exact dd.typeIs
  · obtain ⟨_, _, xs, _, dd⟩ := dt_rd I.hok e
    exact dd.typeIs
theorem dict_noDict {X : Cx} {pins : List (Addr × Obj)} {σ : St} {H : Hp} {s : Shared} {a : Addr} {y : V} {o : Option V} (I : Inv X pins σ H s) (g : DGet H a y o) :
    ∀ b, Value.ref a = .ref b → ∃ ob, s.heap.get? b = some ob ∧ ob.dict = none := fun b q => by
  cases q
  rcases g with ⟨kvs, k, e, _, _⟩ | ⟨kvs, k, b, e, _, _, _⟩
  · obtain ⟨_, _, vs, _, ob, _, _, h1, h2, _⟩ := dk_rd I.hok e
    exact ⟨ob, h1, h2.2.1⟩
  · obtain ⟨_, _, xs, _, ob, _, _, h1, h2, _⟩ := dt_rd I.hok e
    exact ⟨ob, h1, h2.2.1⟩

/-- d[y] -/
def tDGet (td ty : TE) : TE := fun σ H Q => td σ H fun x H1 => ty σ H1 fun y H2 => ∃ a v, x = .ref a ∧ DGet H2 a y (some v) ∧ Q v H2
/-- y in d, y not in d -/
def tDIn (ty td : TE) : TE := fun σ H Q => ty σ H fun y H1 => td σ H1 fun x H2 => ∃ a o, x = .ref a ∧ DGet H2 a y o ∧ Q (.bl o.isSome) H2
def tDNotIn (ty td : TE) : TE := fun σ H Q => ty σ H fun y H1 => td σ H1 fun x H2 => ∃ a o, x = .ref a ∧ DGet H2 a y o ∧ Q (.bl (!o.isSome)) H2
/-- d[y] = v -/
def sDPut (td ty tv : TE) : TS := fun D σ H => tv σ H fun v H1 => td σ H1 fun x H2 => ty σ H2 fun y H3 => ∃ a H4, x = .ref a ∧ DPut H3 a y v H4 ∧ D.nx σ H4
/-- d[y] op= v -/
def sDAug (td ty tv : TE) (rd : V → V → Hp → VK → Prop) : TS := fun D σ H => td σ H fun x H1 => ty σ H1 fun y H2 => ∃ a v, x = .ref a ∧ DGet H2 a y (some v) ∧
  tv σ H2 fun y2 H3 => rd v y2 H3 fun z H4 => ∃ H5, DPut H4 a y z H5 ∧ D.nx σ H5
/-- del d[y] -/
def sDDel (td ty : TE) : TS := fun D σ H => td σ H fun x H1 => ty σ H1 fun y H2 => ∃ a kvs k, x = .ref a ∧ H2 a = some (.dK kvs) ∧ y = kV k ∧ (valV kvs k).isSome = true ∧ D.nx σ (upd H2 a (.dK (dropK kvs k)))

section
variable {X : Cx} {o i e value : Expr} {pos pos' tpos : Pos} {td ty tv : TE}
theorem pe_dget (hu : X.A.units + 1 < cLine) (ho : PE X o td) (hi : PE X i ty) (hs : NoSl i) : PE X (.Subscript o i pos) (tDGet td ty) := by
  intro pins s σ H Q I h
  refine subD_of PySem.F.slot_dict_getitem.lookup hs (thn (ho pins s σ H _ I h) fun u s1 ⟨x, H1, I1, rx, q1⟩ => thn (hi pins s1 σ H1 _ I1 q1) fun iv s2 ⟨y, H2, I2, ry, a, v, ex, g, q2⟩ => ?_)
  subst ex
  obtain rfl : u = Value.ref a := rx
  exact ⟨dict_typeIs I2 g, d_getItem hu I2 g ry fun w' s3 I3 rw' => ⟨v, H2, I3, rw', q2⟩⟩
theorem pc_din (hu : X.A.units + 1 < cLine) (hi : PE X i ty) (ho : PE X o td) : PC X .In i o (tDIn ty td) := by
  intro pins s σ H Q I h
  refine thn (hi pins s σ H _ I h) fun iv s1 ⟨y, H1, I1, ry, q1⟩ => thn (ho pins s1 σ H1 _ I1 q1) fun u s2 ⟨x, H2, I2, rx, a, ov, ex, g, q2⟩ => ?_
  subst ex
  obtain rfl : u = Value.ref a := rx
  exact d_in hu I2 g ry fun s3 I3 => ⟨.bl ov.isSome, H2, I3, rfl, q2⟩
theorem pc_dnotin (hu : X.A.units + 1 < cLine) (hi : PE X i ty) (ho : PE X o td) : PC X .NotIn i o (tDNotIn ty td) := by
  intro pins s σ H Q I h
  refine thn (hi pins s σ H _ I h) fun iv s1 ⟨y, H1, I1, ry, q1⟩ => thn (ho pins s1 σ H1 _ I1 q1) fun u s2 ⟨x, H2, I2, rx, a, ov, ex, g, q2⟩ => ?_
  subst ex
  obtain rfl : u = Value.ref a := rx
  exact d_notIn hu I2 g ry fun s3 I3 => ⟨.bl (!ov.isSome), H2, I3, rfl, q2⟩
theorem ps_dput (hu : X.A.units + 1 < cLine) (ho : PE X o td) (hi : PE X i ty) (hv : PE X value tv) (hs : swapsWith value (some (.Subscript o i pos')) pos.line X.env = pure false) :
    PS X (.Assign [.Subscript o i pos'] value pos) (sDPut td ty tv) := by
  intro pins s σ H D I h
  refine wpAny_Assign_Subscript (thn (hv pins s σ H _ I h) fun r s1 ⟨v, H1, I1, rv, q1⟩ => thn (ho pins s1 σ H1 _ I1 q1) fun u s2 ⟨x, H2, I2, rx, q2⟩ => thn (hi pins s2 σ H2 _ I2 q2) fun iv s3 ⟨y, H3, I3, ry, a, H4, ex, g, q3⟩ => ?_) hs
  subst ex
  obtain rfl : u = Value.ref a := rx
  exact d_setItem hu I3 g ry rv fun s4 I4 => ⟨σ, H4, I4, q3⟩
theorem ps_daug {op : Operator} {rd : V → V → Hp → VK → Prop} (hu : X.A.units + 1 < cLine) (ho : PE X o td) (hi : PE X i ty) (hv : PE X value tv) (hop : InOp X op rd)
    (ha : ∀ ov iv new, augStore i ov iv new = (do holding [new, ov, iv] (setItem ov iv new); release [new, ov, iv] []; pure .next)) : PS X (.AugAssign (.Subscript o i tpos) op value pos) (sDAug td ty tv rd) := by
  intro pins s σ H D I h
  refine wpAny_AugAssign_SubscriptAny (thn (ho pins s σ H _ I h) fun u s1 ⟨x, H1, I1, rx, q1⟩ => thn (hi pins s1 σ H1 _ I1 q1) fun iv s2 ⟨y, H2, I2, ry, a, v, ex, g, q2⟩ => ?_) ha
  subst ex
  obtain rfl : u = Value.ref a := rx
  refine d_getItem hu I2 g ry fun w' s3 I3 rw' => thn (hv pins s3 σ H2 _ I3 q2) fun w2 s4 ⟨y2, H3, I4, ry2, q3⟩ => thn (hop pins s4 σ H3 v y2 w' w2 _ I4 rw' ry2 q3) fun w3 s5 ⟨z, H4, I5, rz, H5, g5, q4⟩ => ?_
  exact d_setItem hu I5 g5 ry rz fun s6 I6 => ⟨σ, H5, I6, q4⟩
theorem ps_ddel (ho : PE X o td) (hi : PE X i ty) : PS X (.Delete [.Subscript o i tpos] pos) (sDDel td ty) := by
  intro pins s σ H D I h
  refine wpAny_Delete (wpAny_deleteEach_cons (wpAny_delete_Subscript (thn (ho pins s σ H _ I h) fun u s1 ⟨x, H1, I1, rx, q1⟩ => thn (hi pins s1 σ H1 _ I1 q1) fun iv s2 ⟨y, H2, I2, ry, a, kvs, k, ex, e, ey, l, q2⟩ => ?_)))
  subst ex ey
  obtain rfl : u = Value.ref a := rx
  exact d_delItem I2 e ry l fun s3 I3 => wpAny_deleteEach_nil ⟨σ, _, I3, q2⟩
end


/-! ### displays -/
theorem dk_empty {P : Program} {w : World} {H : Hp} (h : Heap) (hb : sysModules < h.objs.size) : ObjOk P w H (h.push { cls := .type "dict", data := .dict #[] }) h.objs.size (.dK []) :=
  ⟨Nat.zero_le _, beq_eq_false_iff_ne.mpr (Ne.symm (Nat.ne_of_lt hb)), [], .nil, Heap.DictOf.new h⟩
theorem dt_empty {P : Program} {w : World} {H : Hp} (h : Heap) (hb : sysModules < h.objs.size) : ObjOk P w H (h.push { cls := .type "dict", data := .dict #[] }) h.objs.size (.dT []) :=
  ⟨Nat.zero_le _, beq_eq_false_iff_ne.mpr (Ne.symm (Nat.ne_of_lt hb)), [], .nil, _, #[], 0, Heap.get?_push_size _ rfl, ⟨rfl, rfl, rfl⟩, rfl, rfl, List.nodup_nil⟩
/-- {}, to be a dict of the kind that is wanted -/
def tDNewK : TE := fun _ H Q => ∀ p, H p = none → Q (.ref p) (upd H p (.dK []))
def tDNewT : TE := fun _ H Q => ∀ p, H p = none → Q (.ref p) (upd H p (.dT []))
section
variable {X : Cx} {pos : Pos}
theorem pe_dnewK : PE X (.Dict [] [] pos) tDNewK := fun pins s σ H Q I h =>
  wpAny_Dict_empty ⟨.ref s.heap.objs.size, _, I.laid (a := s.heap.objs.size) (o := .dK []) (t' := s.toks) (fun _ _ q => Heap.get?_push_of_some _ q) (Nat.le_refl _) (dk_empty s.heap I.big), rfl, h _ (I.hok.fresh (Nat.le_refl _))⟩
theorem pe_dnewT : PE X (.Dict [] [] pos) tDNewT := fun pins s σ H Q I h =>
  wpAny_Dict_empty ⟨.ref s.heap.objs.size, _, I.laid (a := s.heap.objs.size) (o := .dT []) (t' := s.toks) (fun _ _ q => Heap.get?_push_of_some _ q) (Nat.le_refl _) (dt_empty s.heap I.big), rfl, h _ (I.hok.fresh (Nat.le_refl _))⟩
end

/-- the pairs of a display, from the left -/
def tPairs : List (TE × TE) → St → Hp → (List (V × V) → Hp → Prop) → Prop
  | [], _, H, Q => Q [] H
  | (tk, tv) :: r, σ, H, Q => tk σ H fun x H1 => tv σ H1 fun y H2 => tPairs r σ H2 fun ps H3 => Q ((x, y) :: ps) H3
abbrev VV : List (V × V) → List (Value × Value) → Prop := Paired fun p q => RelV p.1 q.1 ∧ RelV p.2 q.2
def PPs (X : Cx) (pos : Pos) (keys : List (Option Expr)) (values : List Expr) (trs : List (TE × TE)) : Prop :=
  ∀ (pins : List (Addr × Obj)) (s : Shared) (σ : St) (H : Hp) (Q : List (V × V) → Hp → Prop), Inv X pins σ H s → tPairs trs σ H Q →
    wpAny (model X.prog X.w) X.A (evalPairs (pairTrees keys values X.env pos)) (fun vs s' => ∃ ps H', Inv X pins σ H' s' ∧ VV ps vs ∧ Q ps H') X.xe s
theorem pps_nil {X : Cx} {pos : Pos} : PPs X pos [] [] [] := fun pins s σ H Q I h => pairTrees_nil_walk ⟨[], H, I, .nil, h⟩
theorem pps_cons {X : Cx} {pos : Pos} {k v : Expr} {ks : List (Option Expr)} {vs : List Expr} {tk tv : TE} {trs : List (TE × TE)} (hk : PE X k tk) (hv : PE X v tv) (hr : PPs X pos ks vs trs) :
    PPs X pos (some k :: ks) (v :: vs) ((tk, tv) :: trs) := fun pins s σ H Q I h =>
  pairTrees_cons_walk (thn (hk pins s σ H _ I h) fun u s1 ⟨x, H1, I1, rx, q1⟩ => thn (hv pins s1 σ H1 _ I1 q1) fun w2 s2 ⟨y, H2, I2, ry, q2⟩ =>
    thn (hr pins s2 σ H2 _ I2 q2) fun ws s3 ⟨ps, H3, I3, rel, q3⟩ => ⟨(x, y) :: ps, H3, I3, .cons ⟨rx, ry⟩ rel, q3⟩)

def mergeK (kvs more : List (Key × V)) : List (Key × V) := more.foldl (fun acc kv => putK acc kv.1 kv.2) kvs
theorem KV.merge : ∀ {more : List (Key × V)} {rs : List (Key × Value)} {kvs : List (Key × V)} {vs : List (Key × Value)}, KV more rs → KV kvs vs → KV (mergeK kvs more) (merged vs rs) := by
  intro more rs kvs vs r
  unfold KV at r
  induction r generalizing kvs vs with
  | nil => intro q; exact q
  | @cons p q ps qs h t ih =>
    intro r0
    have e : KV (putK kvs p.1 p.2) (stored vs q.1 q.2) := by
      have := r0.put p.1 h.2
      rw [← h.1]; exact this
    exact ih e
theorem length_mergeK : ∀ (more kvs : List (Key × V)), (mergeK kvs more).length ≤ kvs.length + more.length
  | [], kvs => by show kvs.length ≤ kvs.length + 0; omega
  | p :: r, kvs => by
    have h1 := length_mergeK r (putK kvs p.1 p.2)
    have h2 := length_putK kvs p.1 p.2
    show (mergeK (putK kvs p.1 p.2) r).length ≤ _
    rw [List.length_cons]; omega
theorem carries_of {P : Program} {w : World} : ∀ {kvs : List (Key × V)} {ws : List (Value × Value)}, VV (kvs.map fun kv => (kV kv.1, kv.2)) ws → ∃ rs, Carries (mixKind P w) ws rs ∧ KV kvs rs
  | [], _, r => by rw [List.map_nil] at r; cases r; exact ⟨[], True.intro, .nil⟩
  | p :: kvs, _, r => by
    rw [List.map_cons] at r
    cases r with
    | @cons a b as bs h t =>
      obtain ⟨rs, c, q⟩ := carries_of (P := P) (w := w) t
      obtain ⟨b1, b2⟩ := b
      exact ⟨(p.1, b2) :: rs, ⟨kV_is h.1, rfl, c⟩, .cons ⟨rfl, h.2⟩ q⟩
/-- {k: v, ..} with keys ints and texts; the new dict stands empty while the pairs are made -/
def tDisp (trs : List (TE × TE)) : TE := fun σ H Q => ∀ p, H p = none → tPairs trs σ (upd H p (.dK [])) fun ps H2 => H2 p = some (.dK []) ∧ ∃ kvs : List (Key × V), ps = kvs.map (fun kv => (kV kv.1, kv.2)) ∧ kvs.length ≤ 15 ∧ Q (.ref p) (upd H2 p (.dK (mergeK [] kvs)))
theorem pe_disp {X : Cx} {pos : Pos} {keys : List (Option Expr)} {values : List Expr} {trs : List (TE × TE)} (h : PPs X pos keys values trs) (hall : keys.all (·.isSome) = true) (hl : keys.length = values.length) (h0 : keys ≠ [])
    (h15 : keys.length ≤ 15) : PE X (.Dict keys values pos) (tDisp trs) := by
  intro pins s σ H Q I q
  have hn := I.hok.fresh (Nat.le_refl s.heap.objs.size)
  have I1 := I.laid (a := s.heap.objs.size) (o := .dK []) (h' := s.heap.push { cls := .type "dict", data := .dict #[] }) (t' := s.toks) (fun _ _ q => Heap.get?_push_of_some _ q) (Nat.le_refl _) (dk_empty s.heap I.big)
  refine wpAny_Dict_walk (knd := mixKind X.prog X.w) hall hl h0 h15 (thn (h pins _ σ _ _ I1 (q _ hn)) fun ws s2 ⟨ps, H2, I2, rel, e, kvs, ep, lk, q2⟩ => ?_)
  subst ep
  obtain ⟨rs, c, rk⟩ := carries_of (P := X.prog) (w := X.w) rel
  obtain ⟨z, hd, vs0, r0, dd⟩ := dk_of I2.hok e
  cases r0
  refine ⟨rs, c, dd, fun h' dd' hs => ⟨.ref s.heap.objs.size, _, ?_, rfl, q2⟩⟩
  have hz : (mergeK [] kvs).length ≤ sizeLine := by
    have h1 := length_mergeK kvs []
    rw [List.length_nil] at h1
    rw [sizeLine_eq]; omega
  have he : ∃ q, h'.get? s.heap.objs.size = some q := let ⟨q, _, _, hq, _⟩ := dd'; ⟨q, hq⟩
  exact d_write I2 (by rw [e]; exact True.intro) hs he (dk_new hz hd (rk.merge .nil) dd')


/-! ### methods -/
/-- a method call o.m(e) of a built-in, with one argument: what must be seen of the text -/
structure M1 (X : Cx) (o : Expr) (m : Str) (apos : Pos) (e : Expr) (cpos : Pos) : Prop where
  base : attributeBase o m X.env (eval o X.env) = eval o X.env
  few : ((backTo cpos (starEach [e] X.env)).all (fun x => !x.1) && (backToKw cpos (keywordEach [] X.env)).all (fun x => x.1.isSome)
    && decide (([e] : List Expr).length + ([] : List Keyword).length + (if ([] : List Keyword).isEmpty then 0 else 1) < 30)) = true
  line : (apos.endLine == cpos.line) = true
  trees : backTo cpos (starEach [e] X.env) = [(false, eval e X.env)]
structure M2 (X : Cx) (o : Expr) (m : Str) (apos : Pos) (e f : Expr) (cpos : Pos) : Prop where
  base : attributeBase o m X.env (eval o X.env) = eval o X.env
  few : ((backTo cpos (starEach [e, f] X.env)).all (fun x => !x.1) && (backToKw cpos (keywordEach [] X.env)).all (fun x => x.1.isSome)
    && decide (([e, f] : List Expr).length + ([] : List Keyword).length + (if ([] : List Keyword).isEmpty then 0 else 1) < 30)) = true
  line : (apos.endLine == cpos.line) = true
  trees : backTo cpos (starEach [e, f] X.env) = [(false, eval e X.env), (false, eval f X.env)]

/-- a is a dict, whatever its keys -/
def IsD (H : Hp) (a : Addr) : Prop := (∃ kvs, Rd H a (.dK kvs)) ∨ ∃ kvs, Rd H a (.dT kvs)
theorem isD_at {X : Cx} {pins : List (Addr × Obj)} {σ : St} {H : Hp} {s : Shared} {a : Addr} (I : Inv X pins σ H s) (d : IsD H a) :
    s.TypeIs (.ref a) "dict" ∧ (∀ b, Value.ref a = .ref b → ∃ ob, s.heap.get? b = some ob ∧ ob.dict = none) ∧ (a == sysModules) = false := by
  rcases d with ⟨kvs, e⟩ | ⟨kvs, e⟩
  · obtain ⟨_, hd, vs, _, dd⟩ := dk_rd I.hok e
    refine ⟨dd.typeIs, fun b q => ?_, hd⟩
    cases q
    obtain ⟨ob, _, _, h1, h2, _⟩ := dd
    exact ⟨ob, h1, h2.2.1⟩
  · obtain ⟨_, hd, xs, _, dd⟩ := dt_rd I.hok e
    refine ⟨dd.typeIs, fun b q => ?_, hd⟩
    cases q
    obtain ⟨ob, _, _, h1, h2, _⟩ := dd
    exact ⟨ob, h1, h2.2.1⟩

section
variable {X : Cx} {pins : List (Addr × Obj)} {σ : St} {H : Hp} {s : Shared} {a : Addr} {y d : V} {u r : Value} {o : Option V} {A : Around} {E : Value → Shared → Prop}
/-- d.get(y) -/
theorem d_get1 {Q : Value → Shared → Prop} (hu : A.units + 1 < cLine) (I : Inv X pins σ H s) (g : DGet H a y o) (ry : RelV y u) (h : ∀ w' s', Inv X pins σ H s' → RelV (o.getD .non) w' → Q w' s') :
    wpAny (model X.prog X.w) A (call (.builtin "dict.get") [.ref a, u]) Q E s := by
  rcases g with ⟨kvs, k, e, ey, l⟩ | ⟨kvs, k, b, e, ey, eb, l⟩
  · subst ey
    obtain ⟨z, hd, vs, rel, dd⟩ := dk_rd I.hok e
    refine call_meetsIn PySem.F.slot_dict_get dd.typeIs PySem.F.entry_dict_get (PySem.F.args_dict_get_2 _ _) (meets_dict_get (mixKind X.prog X.w) a (kV_is ry) hd) ⟨_, dd.mapOf, h _ _ (I.tok _) ?_⟩
    rw [l]
    exact (rel.val k).getD rfl
  · subst ey
    cases (show u = Value.ref b from ry)
    obtain ⟨z, hd, xs, rel, dd⟩ := dt_rd I.hok e
    refine call_meetsIn PySem.F.slot_dict_get dd.typeIs PySem.F.entry_dict_get (PySem.F.args_dict_get_2 _ _) (meetsH_dict_get (tupleKind (mixKind X.prog X.w)) a b hd) ⟨tupleKind_room_in1 hu, k, xs, key_of I.hok eb, dd, h _ _ (I.tok _) ?_⟩
    rw [l]
    exact (rel.val k).getD rfl
/-- d.get(y, x) -/
theorem d_get2 {Q : Value → Shared → Prop} (hu : A.units + 1 < cLine) (I : Inv X pins σ H s) (g : DGet H a y o) (ry : RelV y u) (rd : RelV d r) (h : ∀ w' s', Inv X pins σ H s' → RelV (o.getD d) w' → Q w' s') :
    wpAny (model X.prog X.w) A (call (.builtin "dict.get") [.ref a, u, r]) Q E s := by
  rcases g with ⟨kvs, k, e, ey, l⟩ | ⟨kvs, k, b, e, ey, eb, l⟩
  · subst ey
    obtain ⟨z, hd, vs, rel, dd⟩ := dk_rd I.hok e
    refine call_meetsIn PySem.F.slot_dict_get dd.typeIs PySem.F.entry_dict_get (PySem.F.args_dict_get_3 _ _ _) (meets_dict_get_default (mixKind X.prog X.w) a (kV_is ry) hd r) ⟨_, dd.mapOf, h _ _ (I.tok _) ?_⟩
    rw [l]
    exact (rel.val k).getD rd
  · subst ey
    cases (show u = Value.ref b from ry)
    obtain ⟨z, hd, xs, rel, dd⟩ := dt_rd I.hok e
    refine call_meetsIn PySem.F.slot_dict_get dd.typeIs PySem.F.entry_dict_get (PySem.F.args_dict_get_3 _ _ _) (meetsH_dict_get_default (tupleKind (mixKind X.prog X.w)) a b hd r) ⟨tupleKind_room_in1 hu, k, xs, key_of I.hok eb, dd, h _ _ (I.tok _) ?_⟩
    rw [l]
    exact (rel.val k).getD rd
end

def tDGet1 (td ty : TE) : TE := fun σ H Q => td σ H fun x H1 => ∃ a, x = .ref a ∧ IsD H1 a ∧ ty σ H1 fun y H2 => ∃ o, DGet H2 a y o ∧ Q (o.getD .non) H2
def tDGet2 (td ty tx : TE) : TE := fun σ H Q => td σ H fun x H1 => ∃ a, x = .ref a ∧ IsD H1 a ∧ ty σ H1 fun y H2 => tx σ H2 fun z H3 => ∃ o, DGet H3 a y o ∧ Q (o.getD z) H3
/-- d.pop(k): there; d.pop(k, x): there or not -/
def tDPop1 (td ty : TE) : TE := fun σ H Q => td σ H fun x H1 => ∃ a, x = .ref a ∧ IsD H1 a ∧ ty σ H1 fun y H2 => ∃ kvs k v, H2 a = some (.dK kvs) ∧ y = kV k ∧ valV kvs k = some v ∧ Q v (upd H2 a (.dK (dropK kvs k)))
def tDPop2 (td ty tx : TE) : TE := fun σ H Q => td σ H fun x H1 => ∃ a, x = .ref a ∧ IsD H1 a ∧ ty σ H1 fun y H2 => tx σ H2 fun z H3 => ∃ kvs k, H3 a = some (.dK kvs) ∧ y = kV k ∧
  (∀ v, valV kvs k = some v → Q v (upd H3 a (.dK (dropK kvs k)))) ∧ (valV kvs k = none → Q z H3)
section
variable {X : Cx} {o e f : Expr} {apos cpos : Pos} {td ty tx : TE}
theorem pe_dget1 (hu : X.A.units + 1 < cLine) (ho : PE X o td) (he : PE X e ty) (m : M1 X o "get" apos e cpos) : PE X (.Call (.Attribute o "get" apos) [e] [] cpos) (tDGet1 td ty) := by
  intro pins s σ H Q I h
  refine wpAny_Call_method m.base m.few m.line PySem.F.plainAttrs_dict PySem.F.slot_dict_get PySem.F.type_dict_get (thn (ho pins s σ H _ I h) fun u s1 ⟨x, H1, I1, rx, a, ex, d, q1⟩ => ?_)
  subst ex
  obtain rfl : u = Value.ref a := rx
  obtain ⟨t1, t2, _⟩ := isD_at I1 d
  refine ⟨t1, t2, ?_⟩
  rw [m.trees]
  refine Calls.callWith_builtin rfl (Calls.evalArgs_plain (Calls.spliced_cons (thn (he pins s1 σ H1 _ I1 q1) fun iv s2 ⟨y, H2, I2, ry, ov, g, q2⟩ => Calls.spliced_nil ?_)))
  exact d_get1 hu I2 g ry fun w' s3 I3 rw' => ⟨_, H2, I3, rw', q2⟩
theorem pe_dget2 (hu : X.A.units + 1 < cLine) (ho : PE X o td) (he : PE X e ty) (hf : PE X f tx) (m : M2 X o "get" apos e f cpos) : PE X (.Call (.Attribute o "get" apos) [e, f] [] cpos) (tDGet2 td ty tx) := by
  intro pins s σ H Q I h
  refine wpAny_Call_method m.base m.few m.line PySem.F.plainAttrs_dict PySem.F.slot_dict_get PySem.F.type_dict_get (thn (ho pins s σ H _ I h) fun u s1 ⟨x, H1, I1, rx, a, ex, d, q1⟩ => ?_)
  subst ex
  obtain rfl : u = Value.ref a := rx
  obtain ⟨t1, t2, _⟩ := isD_at I1 d
  refine ⟨t1, t2, ?_⟩
  rw [m.trees]
  refine Calls.callWith_builtin rfl (Calls.evalArgs_plain (Calls.spliced_cons (thn (he pins s1 σ H1 _ I1 q1) fun iv s2 ⟨y, H2, I2, ry, q2⟩ =>
    Calls.spliced_cons (thn (hf pins s2 σ H2 _ I2 q2) fun fv s3 ⟨z, H3, I3, rz, ov, g, q3⟩ => Calls.spliced_nil ?_))))
  exact d_get2 hu I3 g ry rz fun w' s4 I4 rw' => ⟨_, H3, I4, rw', q3⟩
theorem pe_dpop1 (ho : PE X o td) (he : PE X e ty) (m : M1 X o "pop" apos e cpos) : PE X (.Call (.Attribute o "pop" apos) [e] [] cpos) (tDPop1 td ty) := by
  intro pins s σ H Q I h
  refine wpAny_Call_method m.base m.few m.line PySem.F.plainAttrs_dict PySem.F.slot_dict_pop PySem.F.type_dict_pop (thn (ho pins s σ H _ I h) fun u s1 ⟨x, H1, I1, rx, a, ex, d, q1⟩ => ?_)
  subst ex
  obtain rfl : u = Value.ref a := rx
  obtain ⟨t1, t2, _⟩ := isD_at I1 d
  refine ⟨t1, t2, ?_⟩
  rw [m.trees]
  refine Calls.callWith_builtin rfl (Calls.evalArgs_plain (Calls.spliced_cons (thn (he pins s1 σ H1 _ I1 q1) fun iv s2 ⟨y, H2, I2, ry, kvs, k, v, ea, ey, l, q2⟩ => Calls.spliced_nil ?_)))
  subst ey
  exact d_pop I2 ea ry l (.inl rfl) fun w' s3 I3 rw' => ⟨v, _, I3, rw', q2⟩
theorem pe_dpop2 (ho : PE X o td) (he : PE X e ty) (hf : PE X f tx) (m : M2 X o "pop" apos e f cpos) : PE X (.Call (.Attribute o "pop" apos) [e, f] [] cpos) (tDPop2 td ty tx) := by
  intro pins s σ H Q I h
  refine wpAny_Call_method m.base m.few m.line PySem.F.plainAttrs_dict PySem.F.slot_dict_pop PySem.F.type_dict_pop (thn (ho pins s σ H _ I h) fun u s1 ⟨x, H1, I1, rx, a, ex, d, q1⟩ => ?_)
  subst ex
  obtain rfl : u = Value.ref a := rx
  obtain ⟨t1, t2, _⟩ := isD_at I1 d
  refine ⟨t1, t2, ?_⟩
  rw [m.trees]
  refine Calls.callWith_builtin rfl (Calls.evalArgs_plain (Calls.spliced_cons (thn (he pins s1 σ H1 _ I1 q1) fun iv s2 ⟨y, H2, I2, ry, q2⟩ =>
    Calls.spliced_cons (thn (hf pins s2 σ H2 _ I2 q2) fun fv s3 ⟨z, H3, I3, rz, kvs, k, ea, ey, q3, q4⟩ => Calls.spliced_nil ?_))))
  subst ey
  cases l : valV kvs k with
  | some v => exact d_pop I3 ea ry l (.inr ⟨fv, rfl⟩) fun w' s4 I4 rw' => ⟨v, _, I4, rw', q3 v l⟩
  | none => exact d_popD I3 ea ry l fun s4 I4 => ⟨z, H3, I4, rz, q4 l⟩
end

/-! ### dict(d): a copy -/
section
variable {X : Cx} {pins : List (Addr × Obj)} {σ : St} {H : Hp} {s : Shared} {a : Addr} {kvs : List (Key × V)} {A : Around} {E : Value → Shared → Prop}
theorem d_copyOf {Q : Value → Shared → Prop} (I : Inv X pins σ H s) (e : Rd H a (.dK kvs)) (h : ∀ p s', H p = none → Inv X pins σ (upd H p (.dK kvs)) s' → Q (.ref p) s') : wpAny (model X.prog X.w) A (call (.type "dict") [.ref a]) Q E s := by
  obtain ⟨z, hd, vs, rel, dd⟩ := dk_rd I.hok e
  refine kt_call_dict hd dd (by rw [← rel.length]; exact z) fun h' dd' hs => ?_
  refine h _ _ (I.hok.fresh (Nat.le_refl _)) (I.laid (a := s.heap.objs.size) (o := .dK kvs) (t' := s.toks) (fun b q hq => ?_) (Nat.le_refl _) (dk_new z (beq_eq_false_iff_ne.mpr (Ne.symm (Nat.ne_of_lt I.big))) rel dd'))
  exact (hs.2 b (Nat.ne_of_lt (Heap.lt_size hq))).trans (Heap.get?_push_of_some _ hq)
end


section
variable {X : Cx} {pins : List (Addr × Obj)} {σ : St} {H : Hp} {s : Shared} {a : Addr} {y : V} {u : Value} {A : Around} {E : Value → Shared → Prop}
/-- d[y], not there: a KeyError -/
theorem d_missing {Q : Value → Shared → Prop} (hu : A.units + 1 < cLine) (hh : A.handled = none) (I : Inv X pins σ H s) (g : DGet H a y none) (ry : RelV y u)
    (h : ∀ h' e t', Heap.NewExc s.heap h' e "KeyError" → E (.ref e) { s with heap := h', toks := t' }) : wpAny (model X.prog X.w) A (getItem (.ref a) u) Q E s := by
  rcases g with ⟨kvs, k, e, ey, l⟩ | ⟨kvs, k, b, e, ey, eb, l⟩
  · subst ey
    obtain ⟨z, hd, vs, rel, dd⟩ := dk_rd I.hok e
    have hn : valueAt vs k = none := RelO.none_of (by rw [l]; exact rel.val k)
    exact wpAny_getItem_missing_of (kV_is ry) hd hh dd.mapOf hn fun h' ex ne => h h' ex _ ne
  · subst ey
    cases (show u = Value.ref b from ry)
    obtain ⟨z, hd, xs, rel, dd⟩ := dt_rd I.hok e
    have hn : (atKey xs k).map (·.2) = none := RelO.none_of (by rw [l]; exact rel.val k)
    exact wpAny_getItem_missing_heap (tupleKind_room_in1 hu) (key_of I.hok eb) hd hh dd (Option.map_eq_none_iff.mp hn) fun h' ex ne => h h' ex _ ne
end
section
variable {X : Cx}
/-- len of a dict -/
theorem call_lenD : CallR X (.builtin "len") (fun xs H Q => ∃ a kvs, xs = [V.ref a] ∧ H a = some (.dK kvs) ∧ Q (.int kvs.length) H) := by
  intro pins s σ H xs us Q I r h
  obtain ⟨a, kvs, rfl, ha, q⟩ := h
  obtain ⟨u, rfl, ru⟩ := vals1 r
  cases ru
  exact d_len I (.inl ha) fun t s' I' => ⟨.int kvs.length, H, I', ⟨t, rfl⟩, q⟩
end
/-! ### a dict's pairs: keys that differ -/
section
variable {κ : Type} [DecidableEq κ]
theorem valV_not {kvs : List (κ × V)} {k : κ} (h : valV kvs k = none) : ¬ k ∈ kvs.map (·.1) := by
  intro m
  obtain ⟨p, hp, e⟩ := List.mem_map.mp m
  have q : (kvs.any fun kv => decide (kv.1 = k)) = true := List.any_eq_true.mpr ⟨p, hp, decide_eq_true e⟩
  rw [valV_any, h] at q
  exact absurd q (by simp)
theorem valV_in {kvs : List (κ × V)} {k : κ} {v : V} (h : valV kvs k = some v) : k ∈ kvs.map (·.1) := by
  have q : (kvs.any fun kv => decide (kv.1 = k)) = true := by
    rw [valV_any, h]
    all_goals rfl
  obtain ⟨p, hp, e⟩ := List.any_eq_true.mp q
  exact List.mem_map.mpr ⟨p, hp, of_decide_eq_true e⟩
theorem nd_snoc : ∀ {l : List κ} {k : κ}, l.Nodup → ¬ k ∈ l → (l ++ [k]).Nodup
  | [], k, _, _ => by simp
  | a :: r, k, h, hk => by
    obtain ⟨h1, h2⟩ := List.nodup_cons.mp h
    show (a :: (r ++ [k])).Nodup
    refine List.nodup_cons.mpr ⟨fun m => ?_, nd_snoc h2 fun m => hk (List.mem_cons.mpr (Or.inr m))⟩
    rcases List.mem_append.mp m with q | q
    · exact h1 q
    · exact hk (List.mem_cons.mpr (Or.inl (List.mem_singleton.mp q).symm))
theorem nd_putK {kvs : List (κ × V)} {k : κ} (v : V) (hn : (kvs.map (·.1)).Nodup) (h : valV kvs k = none) : ((putK kvs k v).map (·.1)).Nodup := by
  rw [putK_new v h, List.map_append]
  exact nd_snoc hn (valV_not h)
theorem dropK_pos {p : κ × V} {r : List (κ × V)} {k : κ} (e : p.1 = k) : dropK (p :: r) k = dropK r k := by
  unfold dropK
  rw [List.filter_cons, if_neg (by simp [e])]
theorem dropK_neg {p : κ × V} {r : List (κ × V)} {k : κ} (e : ¬ p.1 = k) : dropK (p :: r) k = p :: dropK r k := by
  unfold dropK
  rw [List.filter_cons, if_pos (by simp [e])]
theorem dropK_no : ∀ {kvs : List (κ × V)} {k : κ}, ¬ k ∈ kvs.map (·.1) → dropK kvs k = kvs
  | [], _, _ => rfl
  | p :: r, k, h => by
    have h' : ¬ k ∈ r.map (·.1) := fun m => by
      obtain ⟨q, hq, e⟩ := List.mem_map.mp m
      exact h (List.mem_map.mpr ⟨q, List.mem_cons.mpr (Or.inr hq), e⟩)
    rw [dropK_neg fun e => h (List.mem_map.mpr ⟨p, List.mem_cons.mpr (Or.inl rfl), e⟩), dropK_no h']
theorem dropK_mem {kvs : List (κ × V)} {k : κ} {p : κ × V} (h : p ∈ dropK kvs k) : p ∈ kvs := (List.mem_filter.mp h).1
theorem nd_dropK : ∀ {kvs : List (κ × V)} {k : κ}, (kvs.map (·.1)).Nodup → ((dropK kvs k).map (·.1)).Nodup
  | [], _, _ => List.nodup_nil
  | p :: r, k, h => by
    have h : (p.1 :: r.map (·.1)).Nodup := h
    obtain ⟨h1, h2⟩ := List.nodup_cons.mp h
    by_cases e : p.1 = k
    · rw [dropK_pos e]
      exact nd_dropK h2
    · rw [dropK_neg e]
      show (p.1 :: (dropK r k).map (·.1)).Nodup
      refine List.nodup_cons.mpr ⟨fun m => h1 ?_, nd_dropK h2⟩
      obtain ⟨q, hq, eq⟩ := List.mem_map.mp m
      exact List.mem_map.mpr ⟨q, dropK_mem hq, eq⟩
theorem dropK_len : ∀ {kvs : List (κ × V)} {k : κ}, (kvs.map (·.1)).Nodup → k ∈ kvs.map (·.1) → (dropK kvs k).length + 1 = kvs.length
  | [], _, _, m => by simp at m
  | p :: r, k, h, m => by
    have h : (p.1 :: r.map (·.1)).Nodup := h
    have m : k = p.1 ∨ k ∈ r.map (·.1) := List.mem_cons.mp m
    obtain ⟨h1, h2⟩ := List.nodup_cons.mp h
    by_cases e : p.1 = k
    · subst e
      rw [dropK_pos rfl, dropK_no h1]
      all_goals rfl
    · have m' : k ∈ r.map (·.1) := m.resolve_left fun z => e z.symm
      have q := dropK_len h2 m'
      rw [dropK_neg e, List.length_cons, List.length_cons]
      omega
end
end L2

set_option Elab.async false
set_option linter.all false
set_option maxRecDepth 100000
set_option maxHeartbeats 4000000
namespace L2
open PySem PySem.Spec PyProof.Rows

/-! ### comprehensions: the block's names and cells -/
section
variable {M : Model} {A : Around} {E : Value → Shared → Prop} {s : Shared}
def clOf (env : Env) : List (Str × NameKind) → List (Str × Addr) → List (Str × Addr)
  | [], acc => acc
  | (n, k) :: r, acc => if (k == NameKind.free) = true then clOf env r ((n, (env.cells.lookup n).getD 0) :: acc) else clOf env r acc
theorem clOf_loop {env : Env} (f : Str × NameKind → List (Str × Addr) → Sem (ForInStep (List (Str × Addr))))
    (hf : ∀ n k cs, f (n, k) cs = if (k == NameKind.free) = true then (do let a ← cellOf env n; pure (.yield ((n, a) :: cs))) else pure (.yield cs)) :
    ∀ (names : List (Str × NameKind)) (acc : List (Str × Addr)), (∀ p ∈ names, p.2 = .free → ∃ c, env.cells.lookup p.1 = some c) → forIn names acc f = pure (clOf env names acc)
  | [], acc, _ => by rw [List.forIn_nil]; rfl
  | (n, k) :: r, acc, h => by
    have hr : ∀ p ∈ r, p.2 = .free → ∃ c, env.cells.lookup p.1 = some c := fun p hp => h p (List.mem_cons_of_mem _ hp)
    rw [List.forIn_cons, hf, clOf]
    by_cases hk : (k == NameKind.free) = true
    · obtain ⟨c, hc⟩ := h (n, k) List.mem_cons_self (by simpa using hk)
      have hc' : env.cells.lookup n = some c := hc
      rw [if_pos hk, if_pos hk]
      have e : cellOf env n = pure c := by unfold cellOf; rw [hc']
      rw [e, hc']
      exact clOf_loop f hf r _ hr
    · rw [if_neg hk, if_neg hk]
      exact clOf_loop f hf r _ hr
theorem closureFor_of {sc : Scope} {env : Env} (h : ∀ p ∈ sc.names, p.2 = .free → ∃ c, env.cells.lookup p.1 = some c) : closureFor sc env = pure (clOf env sc.names []) := by
  unfold closureFor
  have e := clOf_loop (env := env) (fun (x : Str × NameKind) (r : List (Str × Addr)) => if (x.2 == NameKind.free) = true then (do let a ← cellOf env x.1; pure (ForInStep.yield ((x.1, a) :: r))) else pure (ForInStep.yield r)) (fun _ _ _ => rfl) sc.names [] h
  exact (congrArg (fun m => m >>= fun cs => pure cs) e)
theorem clOf_mem {env : Env} {x : Str} {c : Addr} : ∀ {names : List (Str × NameKind)} {acc : List (Str × Addr)}, (x, c) ∈ clOf env names acc → (x, c) ∈ acc ∨ ((x, NameKind.free) ∈ names ∧ c = (env.cells.lookup x).getD 0)
  | [], _, h => .inl h
  | (n, k) :: r, acc, h => by
    unfold clOf at h
    split at h
    · rename_i hk
      have hk' : k = .free := by simpa using hk
      rcases clOf_mem h with q | ⟨q, e⟩
      · rcases List.mem_cons.mp q with q | q
        · cases q; exact .inr ⟨by rw [hk']; exact List.mem_cons_self, rfl⟩
        · exact .inl q
      · exact .inr ⟨List.mem_cons_of_mem _ q, e⟩
    · rcases clOf_mem h with q | ⟨q, e⟩
      · exact .inl q
      · exact .inr ⟨List.mem_cons_of_mem _ q, e⟩
theorem lookup_mem_some {β : Type} {x : Str} {c : β} : ∀ {l : List (Str × β)}, (x, c) ∈ l → ∃ c', l.lookup x = some c'
  | [], h => nomatch h
  | (n, k) :: r, h => by
    cases hx : x == n with
    | true => exact ⟨k, by simp [List.lookup_cons, hx]⟩
    | false =>
      rcases List.mem_cons.mp h with q | q
      · cases q; simp at hx
      · obtain ⟨c', e⟩ := lookup_mem_some q
        exact ⟨c', by simp [List.lookup_cons, hx, e]⟩
theorem clOf_has {env : Env} {x : Str} : ∀ {names : List (Str × NameKind)} {acc : List (Str × Addr)}, ((x, NameKind.free) ∈ names ∨ ∃ c, (x, c) ∈ acc) → ∃ c, (x, c) ∈ clOf env names acc
  | [], acc, h => by
    rcases h with h | ⟨c, h⟩
    · exact nomatch h
    · exact ⟨c, h⟩
  | (n, k) :: r, acc, h => by
    unfold clOf
    split
    · rename_i hk
      apply clOf_has
      rcases h with h | ⟨c, h⟩
      · rcases List.mem_cons.mp h with q | q
        · cases q; exact .inr ⟨_, List.mem_cons_self⟩
        · exact .inl q
      · exact .inr ⟨c, List.mem_cons_of_mem _ h⟩
    · rename_i hk
      apply clOf_has
      rcases h with h | ⟨c, h⟩
      · rcases List.mem_cons.mp h with q | q
        · cases q; simp at hk
        · exact .inl q
      · exact .inr ⟨c, h⟩
theorem cellsFrom_append : ∀ (names : List (Str × NameKind)) (n : Nat) (acc : List (Str × Addr)), cellsFrom n names acc = cellsFrom n names [] ++ acc
  | [], _, _ => rfl
  | (x, k) :: r, n, acc => by
    unfold cellsFrom
    split
    · rw [cellsFrom_append r (n + 1) ((x, n) :: acc), cellsFrom_append r (n + 1) [(x, n)]]; simp
    · exact cellsFrom_append r n acc
theorem cellsFrom_mem {x : Str} {c : Addr} : ∀ {names : List (Str × NameKind)} {n : Nat} {acc : List (Str × Addr)}, (x, c) ∈ cellsFrom n names acc → (x, c) ∈ acc ∨ (x, NameKind.cell) ∈ names
  | [], _, _, h => .inl h
  | (m, k) :: r, n, acc, h => by
    unfold cellsFrom at h
    split at h
    · rename_i hk
      have hk' : k = .cell := by simpa using hk
      rcases cellsFrom_mem h with q | q
      · rcases List.mem_cons.mp q with q | q
        · cases q; exact .inr (by rw [hk']; exact List.mem_cons_self)
        · exact .inl q
      · exact .inr (List.mem_cons_of_mem _ q)
    · rcases cellsFrom_mem h with q | q
      · exact .inl q
      · exact .inr (List.mem_cons_of_mem _ q)
theorem cellsFrom_has {x : Str} : ∀ {names : List (Str × NameKind)} {n : Nat} {acc : List (Str × Addr)}, ((x, NameKind.cell) ∈ names ∨ ∃ c, (x, c) ∈ acc) → ∃ c, (x, c) ∈ cellsFrom n names acc
  | [], n, acc, h => by
    rcases h with h | ⟨c, h⟩
    · exact nomatch h
    · exact ⟨c, h⟩
  | (m, k) :: r, n, acc, h => by
    unfold cellsFrom
    split
    · apply cellsFrom_has
      rcases h with h | ⟨c, h⟩
      · rcases List.mem_cons.mp h with q | q
        · cases q; exact .inr ⟨_, List.mem_cons_self⟩
        · exact .inl q
      · exact .inr ⟨c, List.mem_cons_of_mem _ h⟩
    · rename_i hk
      apply cellsFrom_has
      rcases h with h | ⟨c, h⟩
      · rcases List.mem_cons.mp h with q | q
        · cases q; simp at hk
        · exact .inl q
      · exact .inr ⟨c, h⟩
theorem lookup_app {β : Type} {x : Str} : ∀ (l1 l2 : List (Str × β)), (l1 ++ l2).lookup x = (l1.lookup x).or (l2.lookup x)
  | [], _ => by simp
  | (n, k) :: r, l2 => by
    cases hx : x == n with
    | true => simp [List.lookup_cons, hx]
    | false => simp [List.lookup_cons, hx, lookup_app r l2]
theorem newEnv_comp {scope : Scope} {globals : Addr} {cl : List (Str × Addr)} {qual : Str} {env : Env} {Q : Env → Shared → Prop}
    (hQ : Q { scope, locals := s.heap.objs.size, globals, cells := cellsFrom (s.heap.objs.size + 1) scope.names cl, qual, func := none, code := env.code, frame := env.frame, builtins := env.builtins }
      { s with heap := pushCells (s.heap.push { cls := .type "dict", data := .dict #[] }) scope.names }) :
    wpAny M A (newFunctionEnv scope globals cl [] qual none .none (some env)) Q E s := by
  have z : (s.heap.push { cls := .type "dict", data := .dict #[] }).objs.size = s.heap.objs.size + 1 := Heap.size_push ..
  show wpAny M A (alloc { cls := .type "dict", data := .dict #[] } >>= _) Q E s
  apply wpAny_bind; apply wpAny_alloc; apply wpAny_bind
  refine wpAny_layCells _ (fun _ k _ => by by_cases y : k = NameKind.cell <;> simp [y]) _ _ _ _ ?_
  dsimp only
  rw [List.forIn_nil, z]
  exact wpAny_bind (wpAny_pure (wpAny_pure hQ))
theorem lookup_relabel {env : Env} {x : Str} : ∀ (names : List (Str × NameKind)),
    (names.map fun (n, k) => if (k == NameKind.free && env.scope.kind == .function && env.kindOf n == some .cell) then (n, NameKind.cell) else (n, k)).lookup x =
      (names.lookup x).map fun k => if (k == NameKind.free && env.scope.kind == .function && env.kindOf x == some .cell) = true then NameKind.cell else k
  | [] => by simp
  | (n, k) :: r => by
    have ih := lookup_relabel (env := env) (x := x) r
    cases hx : x == n with
    | true =>
      have e : x = n := by simpa using hx
      subst e
      rw [List.map_cons]
      dsimp only
      by_cases hc : (k == NameKind.free && env.scope.kind == .function && env.kindOf x == some .cell) = true
      · rw [if_pos hc, List.lookup_cons, List.lookup_cons, hx]; dsimp only [Option.map_some]; rw [if_pos hc]
      · rw [if_neg hc, List.lookup_cons, List.lookup_cons, hx]; dsimp only [Option.map_some]; rw [if_neg hc]
    | false =>
      rw [List.map_cons]
      dsimp only
      by_cases hc : (k == NameKind.free && env.scope.kind == .function && env.kindOf n == some .cell) = true
      · rw [if_pos hc, List.lookup_cons, List.lookup_cons, hx]; exact ih
      · rw [if_neg hc, List.lookup_cons, List.lookup_cons, hx]; exact ih
end

/-- the context of a comprehension's block: own names first, then the outer names (by their places) that it reads -/
def cxC (X : Cx) (own : List Str) (fr : List Nat) (scope : Scope) (s2 : Shared) (H2 : Hp) (fp : List Addr) : Cx where
  prog := X.prog
  w := X.w
  K := X.K
  mg := X.mg
  base := X.base
  A := X.A
  N := own ++ fr.map (fun i => X.N.getD i Str.empty)
  s₀ := s2
  H₀ := H2
  env := { scope := relabel scope X.env, locals := s2.heap.objs.size + 1, globals := X.env.globals, cells := cellsFrom (s2.heap.objs.size + 2) scope.names (clOf X.env scope.names []), qual := X.env.qual, func := none, code := X.env.code, frame := X.env.frame, builtins := X.env.builtins }
  outer := X.stack
  stack := X.stack
  ex := fp
  fn := fun x => scope.names.lookup x == some .cell
  calm := X.calm
  pn := []
  xe := fun _ _ => False
def cSt (own : List Str) (fr : List Nat) (σ : St) : St := List.replicate own.length none ++ fr.map fun i => (σ[i]?).join

/-- what is looked at of a comprehension's scope (closed) -/
def compOk (osc : List (Str × NameKind)) (N : List Str) (own : List Str) (fr : List Nat) (sc : Scope) : Bool :=
  decide (sc.kind = .function) && decide ((sc.names.map (·.1)).Nodup) &&
  sc.names.all (fun y => !(y.2 == .free) || (osc.lookup y.1 == some .cell || osc.lookup y.1 == some .free)) &&
  fr.all (fun i => decide (i < N.length) && (sc.names.lookup (N.getD i Str.empty) == some .free))
structure CompSc (X : Cx) (own : List Str) (fr : List Nat) (sc : Scope) : Prop where
  kind : sc.kind = .function
  nd : (sc.names.map (·.1)).Nodup
  fre : ∀ y ∈ sc.names, y.2 = .free → X.env.scope.names.lookup y.1 = some .cell ∨ X.env.scope.names.lookup y.1 = some .free
  frl : ∀ i ∈ fr, i < X.N.length
  frv : ∀ i ∈ fr, sc.names.lookup (X.N.getD i Str.empty) = some .free
theorem compSc {X : Cx} {own : List Str} {fr : List Nat} {sc : Scope} {osc : List (Str × NameKind)} {N : List Str} (h1 : X.env.scope.names = osc) (h2 : X.N = N) (h : compOk osc N own fr sc = true) : CompSc X own fr sc := by
  unfold compOk at h
  simp only [Bool.and_eq_true, decide_eq_true_eq, List.all_eq_true] at h
  obtain ⟨⟨⟨h3, h4⟩, h5⟩, h6⟩ := h
  refine ⟨h3, h4, fun y hy hf => ?_, fun i hi => ?_, fun i hi => ?_⟩
  · have := h5 y hy
    rw [h1]
    simpa [hf] using this
  · rw [h2]; exact (h6 i hi).1
  · rw [h2]; simpa using (h6 i hi).2
theorem lookup_of_mem_nd {x : Str} {k : NameKind} : ∀ {l : List (Str × NameKind)}, (l.map (·.1)).Nodup → (x, k) ∈ l → l.lookup x = some k
  | [], _, h => nomatch h
  | (n, q) :: r, nd, h => by
    rcases List.mem_cons.mp h with e | e
    · cases e; simp [List.lookup_cons]
    · have nd' := List.nodup_cons.mp nd
      have hne : (x == n) = false := by
        have : x ≠ n := fun z => nd'.1 (by rw [← z]; exact List.mem_map.mpr ⟨_, e, rfl⟩)
        simpa using this
      rw [List.lookup_cons, hne]
      exact lookup_of_mem_nd nd'.2 e

section
variable {X : Cx} {pins : List (Addr × Obj)} {σ : St} {H : Hp} {s : Shared} {own : List Str} {fr : List Nat} {sc : Scope} {fp : List Addr}
/-- the heap in which the block begins -/
abbrev hC (s : Shared) (sc : Scope) (h1 : Heap) : Heap := pushCells (h1.push { cls := .type "dict", data := .dict #[] }) sc.names
theorem inv_comp (I : Inv X pins σ H s) (S : CompSc X own fr sc) (hfp : ∀ b ∈ fp, FpOk X pins H b) {h1 : Heap} (hz : h1.objs.size = s.heap.objs.size + 1) (hk : ∀ b o, s.heap.get? b = some o → h1.get? b = some o) (hfl : ∀ b ∈ fp, @LT.lt Nat _ b s.heap.objs.size) :
    Inv (cxC X own fr sc s H fp) [] (cSt own fr σ) H { s with heap := hC s sc h1 } := by
  have kk : ∀ b o, s.heap.get? b = some o → (hC s sc h1).get? b = some o := fun b o e => pushCells_keeps _ _ b o (Heap.get?_push_of_some _ (hk b o e))
  have nsC : (hC s sc h1).Ns (s.heap.objs.size + 1) (fun _ => none) := by
    have q := (Heap.Ns.new h1 (.type "dict")).keeps (pushCells_keeps sc.names _)
    rw [hz] at q
    exact q
  have ok := cellsFrom_ok sc.names (h1.push { cls := .type "dict", data := .dict #[] }) (s.heap.objs.size + 2) [] ⟨fun _ _ hm => (nomatch hm), List.Pairwise.nil⟩ (by rw [Heap.size_push, hz]; exact Nat.le_refl _)
  rw [Heap.size_push, hz] at ok
  -- a free name's cell
  have fcell : ∀ y ∈ sc.names, y.2 = .free → ∃ c, X.env.cells.lookup y.1 = some c := fun y hy hf => I.ok.has y.1 (by
    rcases S.fre y hy hf with q | q
    · exact .inl q
    · exact .inr q)
  have old : ∀ x c, (clOf X.env sc.names []).lookup x = some c → X.env.cells.lookup x = some c ∧ (x, NameKind.free) ∈ sc.names := fun x c e => by
    rcases clOf_mem (PySem.mem_of_lookup e) with q | ⟨q, e2⟩
    · exact nomatch q
    · obtain ⟨c', e3⟩ := fcell _ q rfl
      have e3' : X.env.cells.lookup x = some c' := e3
      rw [e3'] at e2
      have : c = c' := e2
      subst this
      exact ⟨e3', q⟩
  have cs : ∀ x c, (cxC X own fr sc s H fp).env.cells.lookup x = some c → ((cellsFrom (s.heap.objs.size + 2) sc.names []).lookup x = some c ∧ @LE.le Nat _ (s.heap.objs.size + 2) c) ∨ (X.env.cells.lookup x = some c ∧ (x, NameKind.free) ∈ sc.names ∧ @LT.lt Nat _ c s.heap.objs.size) := fun x c e => by
    have e' : (cellsFrom (s.heap.objs.size + 2) sc.names (clOf X.env sc.names [])).lookup x = some c := e
    rw [cellsFrom_append, lookup_app] at e'
    cases q : (cellsFrom (s.heap.objs.size + 2) sc.names []).lookup x with
    | some c' =>
      rw [q] at e'
      have : c' = c := by simpa using e'
      subst this
      exact .inl ⟨rfl, (ok.empty x c' (PySem.mem_of_lookup q)).2⟩
    | none =>
      rw [q] at e'
      obtain ⟨e1, e2⟩ := old x c (by simpa using e')
      obtain ⟨v, hv⟩ := I.cell x c e1
      exact .inr ⟨e1, e2, hv.lt⟩
  have okY : (cxC X own fr sc s H fp).Ok := by
    refine ⟨I.ok.mod, S.kind, I.ok.glob, I.ok.blt, Nat.le_succ _, fun x y c h1 h2 => ?_, fun x hx => ?_, fun x c hf e => ?_, I.ok.hd, I.ok.frames, .inl rfl, fun b hb => ⟨?_, fun x c e => ?_⟩, fun b o e => I.bs b o e, Nat.le_trans I.ok.bsz I.sz, fun b o e hb => ?_, fun b hb z => ?_, I.stack, I.stkFree⟩
    · rcases cs x c h1 with ⟨q1, g1⟩ | ⟨q1, _, g1⟩
      · rcases cs y c h2 with ⟨q2, g2⟩ | ⟨q2, _, g2⟩
        · exact name_of_addr ok.apart (PySem.mem_of_lookup q1) (PySem.mem_of_lookup q2)
        · omega
      · rcases cs y c h2 with ⟨q2, g2⟩ | ⟨q2, _, g2⟩
        · omega
        · exact I.ok.inj x y c q1 q2
    · -- a cell or free name of the block has its cell
      have hx' : (relabel sc X.env).names.lookup x = some .cell ∨ (relabel sc X.env).names.lookup x = some .free := hx
      have hl : sc.names.lookup x = some .cell ∨ sc.names.lookup x = some .free := by
        unfold relabel at hx'
        rw [lookup_relabel] at hx'
        cases q : sc.names.lookup x with
        | none => rw [q] at hx'; simp at hx'
        | some k =>
          rw [q] at hx'
          cases k <;> simp at hx' ⊢
      have hm : ∃ c, (x, c) ∈ cellsFrom (s.heap.objs.size + 2) sc.names (clOf X.env sc.names []) := by
        rcases hl with hl | hl
        · exact cellsFrom_has (.inl (PySem.mem_of_lookup hl))
        · exact cellsFrom_has (.inr (clOf_has (.inl (PySem.mem_of_lookup hl))))
      obtain ⟨c, hm⟩ := hm
      exact lookup_mem_some hm
    · have hf' : sc.names.lookup x = some .cell := by simpa using (show (sc.names.lookup x == some .cell) = true from hf)
      show @LE.le Nat _ s.heap.objs.size c
      rcases cs x c e with ⟨_, g⟩ | ⟨_, q, _⟩
      · omega
      · rw [lookup_of_mem_nd S.nd q] at hf'; cases hf'
    · have := hfl b hb
      show @Ne Nat b (s.heap.objs.size + 1)
      omega
    · intro z
      subst z
      rcases cs x c e with ⟨_, g⟩ | ⟨q, _, _⟩
      · have := hfl c hb; omega
      · exact (hfp c hb).2.2.2.2.1 x c q rfl
    · rcases (hfp b hb).2.2.2.1 with z | z
      · exact I.ok.noex b o e z
      · have z1 : @LT.lt Nat _ b X.base.objs.size := Heap.lt_size e
        have z2 : X.base.objs.size ≤ X.s₀.heap.objs.size := I.ok.bsz
        have z3 : @LE.le Nat _ X.s₀.heap.objs.size b := z
        omega
    · rcases List.mem_cons.mp (I.stkSub b z) with e | e
      · exact (hfp b hb).2.1 e
      · exact (hfp b hb).2.2.1 e
  refine ⟨okY, rfl, I.bare, Un.kept kk, ⟨_, nsC, fun i x v h1 h2 h3 => ?_⟩, fun x c e => ?_, I.hok.fresh (Nat.le_succ _), fun x c e => ?_, fun p hp => absurd (show p ∈ ([] : List (Addr × Obj)) from hp) (by simp), I.hok.kept kk, ?_⟩
  · -- an outer name that is read
    have hi : own.length ≤ i := by
      by_cases hi : i < own.length
      · exfalso
        unfold cSt at h2
        rw [List.getElem?_append_left (by simpa using hi), List.getElem?_replicate] at h2
        split at h2 <;> cases h2
      · omega
    have h1' : (own ++ fr.map (fun i => X.N.getD i Str.empty))[i]? = some x := h1
    rw [List.getElem?_append_right hi, List.getElem?_map] at h1'
    unfold cSt at h2
    rw [List.getElem?_append_right (by simpa using hi), List.getElem?_map, List.length_replicate] at h2
    cases e : fr[i - own.length]? with
    | none => rw [e] at h1'; cases h1'
    | some k =>
      rw [e] at h1' h2
      have hkm : k ∈ fr := List.mem_of_getElem? e
      have ex : X.N.getD k Str.empty = x := by simpa using h1'
      have ev : (σ[k]?).join = some v := by simpa using h2
      have hkl := S.frl k hkm
      have eN : X.N[k]? = some x := by rw [← ex]; simp [List.getD, hkl]
      have eσ : σ[k]? = some (some v) := by
        cases q : σ[k]? with
        | none => rw [q] at ev; cases ev
        | some o => rw [q] at ev; cases o with
          | none => cases ev
          | some v' => have : v' = v := by simpa using ev
                       subst this; rfl
      have hfr := S.frv k hkm
      rw [ex] at hfr
      have hmem : (x, NameKind.free) ∈ sc.names := PySem.mem_of_lookup hfr
      have hkd := S.fre _ hmem rfl
      have hkd' : X.env.scope.names.lookup x = some .cell ∨ X.env.scope.names.lookup x = some .free := hkd
      obtain ⟨m, hn, hl⟩ := I.loc
      obtain ⟨u, r, l⟩ := hl k x v eN eσ (hkd'.elim (fun z => .inr (.inl z)) fun z => .inr (.inr z))
      refine ⟨u, r, ?_⟩
      rcases l with ⟨z, _⟩ | ⟨_, c, hc, hcell⟩
      · exfalso
        have z' : X.env.scope.names.lookup x = some .local := z
        rcases hkd' with q | q <;> (rw [q] at z'; cases z')
      · refine .inr ⟨?_, c, ?_, hcell.keeps kk⟩
        · show (relabel sc X.env).names.lookup x = some .cell ∨ (relabel sc X.env).names.lookup x = some .free
          unfold relabel
          rw [lookup_relabel, hfr]
          simp only [Option.map_some]
          split
          · exact .inl rfl
          · exact .inr rfl
        · show (cellsFrom (s.heap.objs.size + 2) sc.names (clOf X.env sc.names [])).lookup x = some c
          rw [cellsFrom_append, lookup_app]
          have h0 : (cellsFrom (s.heap.objs.size + 2) sc.names []).lookup x = none := by
            cases q : (cellsFrom (s.heap.objs.size + 2) sc.names []).lookup x with
            | none => rfl
            | some c' =>
              exfalso
              rcases cellsFrom_mem (PySem.mem_of_lookup q) with z | z
              · exact nomatch z
              · rw [lookup_of_mem_nd S.nd z] at hfr; cases hfr
          rw [h0]
          obtain ⟨c', hm'⟩ := clOf_has (env := X.env) (acc := []) (.inl hmem)
          obtain ⟨c2, e2⟩ := lookup_mem_some hm'
          obtain ⟨e3, _⟩ := old x c2 e2
          rw [hc] at e3
          rw [e2]
          simpa using e3.symm
  · rcases cs x c e with ⟨q, _⟩ | ⟨q, _, _⟩
    · exact ⟨_, (ok.empty x c (PySem.mem_of_lookup q)).1⟩
    · obtain ⟨v, hv⟩ := I.cell x c q
      exact ⟨v, hv.keeps kk⟩
  · rcases cs x c e with ⟨_, g⟩ | ⟨q, _, _⟩
    · exact I.hok.fresh (by omega)
    · exact I.freeC x c q
  · unfold cSt
    show _ = (own ++ fr.map (fun i => X.N.getD i Str.empty)).length
    simp
/-- behind the block: the outer state again, with the made list -/
theorem inv_back {own : List Str} {fr : List Nat} {sc : Scope} {fp : List Addr} {H1 : Hp} {s1 : Shared} {σ1 : St} {pins1 : List (Addr × Obj)} {h' : Heap} {o : HO} {D : Addr}
    (I : Inv X pins σ H s) (hfp : ∀ b ∈ fp, FpOk X pins H b) (I1 : Inv (cxC X own fr sc s H fp) pins1 σ1 H1 s1) (hD : @LE.le Nat _ s.heap.objs.size D) (hDn : H1 D = none) (hDC : D ≠ s.heap.objs.size + 1)
    (hs : Heap.SameBut (s.heap.objs.size + 1) s1.heap h') (hO : ObjOk X.prog X.w (upd H1 D o) h' D o) (tk : Nat) : Inv X pins σ (upd H1 D o) { s1 with heap := h', toks := tk } := by
  have u := I1.base
  have hCn : H1 (s.heap.objs.size + 1) = none := I1.free
  have hDo : ∀ b ob, s.heap.get? b = some ob → b ≠ D := fun b ob e z => by
    have := Heap.lt_size e
    have z' : @Eq Nat b D := z
    have q : @LT.lt Nat _ b s.heap.objs.size := this
    omega
  have hCo : ∀ b ob, s.heap.get? b = some ob → b ≠ s.heap.objs.size + 1 := fun b ob e z => by
    have q : @LT.lt Nat _ b s.heap.objs.size := Heap.lt_size e
    have z' : @Eq Nat b (s.heap.objs.size + 1) := z
    omega
  have hDs : H D = none := I.hok.fresh hD
  have cut : ∀ b ob, s.heap.get? b = some ob → ∀ oc, s1.heap.get? b = some oc → h'.get? b = some oc := fun b ob e oc q => (hs.2 b (hCo b ob e)).trans q
  refine Inv.call' (ch := fp) I (s' := { s1 with heap := h', toks := tk }) I1.os ?_ ?_ I1.bare fun b hb => ⟨(hfp b hb).2.2.2.1, (hfp b hb).2.1, (hfp b hb).2.2.2.2.1, (hfp b hb).2.2.2.2.2⟩
  · refine ⟨fun b ob e n hb hx => cut b ob e _ (u.keep b ob e n hb hx), fun b ob e n hb hx => ?_, fun b ob e n hx => ?_, fun b ob e hx => ?_, fun b xs e => ?_, fun b ob xs e => ?_, fun b ps e => ?_⟩
    · obtain ⟨sl, q⟩ := u.slot b ob e n hb hx
      exact ⟨sl, cut b ob e _ q⟩
    · rw [upd_ne (hDo b ob e)]; exact u.free b ob e n hx
    · obtain ⟨o', q⟩ := u.there b ob e hx
      exact ⟨o', cut b ob e _ q⟩
    · rw [upd_ne (ne_of_none e hDs)]; exact u.tups b xs e
    · rw [upd_ne (ne_of_none e hDs)]; exact u.frzs b ob xs e
    · rw [upd_ne (ne_of_none e hDs)]; exact u.tbls b ps e
  · intro b ob e
    by_cases hb : b = D
    · subst hb; rw [upd_same] at e; cases e; exact hO
    · rw [upd_ne hb] at e
      refine (I1.hok b ob e).stay (fun c q hc g => ?_) (fun c q => by rw [upd_ne (ne_of_none q hDn)]; exact q) fun c xs q => by rw [upd_ne (ne_of_none q hDn)]; exact q
      refine (hs.2 c ?_).trans g
      rcases hc with z | z
      · rw [z]; exact ne_of_none e hCn
      · exact ne_of_none z hCn
end

/-! ### the loop of a list comprehension -/
abbrev Nev : Value → Shared → Prop := fun _ _ => False
def oneTest (env : Env) (c : Expr) (b : Bool) : Sem (ForInStep Bool) :=
  if b = true then (isTrue c env (eval c env) >>= fun b' => pure (.yield b')) else pure (.yield b)
/-- the tests of a clause, the first that fails ends them -/
def allTests (env : Env) (cs : List Expr) : Sem Bool := forIn cs true (oneTest env)
/-- a block of one clause: what it adds, its target, its source, its tests, its names -/
structure Blk where
  add : Expr
  tgt : Expr
  src : Expr
  cs : List Expr
  sc : Scope
  pos : Pos
namespace Blk
variable (B : Blk)
abbrev expr : Expr := .ListComp B.add [⟨B.tgt, B.src, B.cs, 0⟩] B.sc B.pos
section
variable (prog : Program) (w : World) (A : Around) (env : Env) (it acc : Value)
/-- a program that raises nothing -/
abbrev Tame {α : Type} (e : Sem α) (Q : α → Shared → Prop) (s : Shared) : Prop := wpAny (model prog w) A e Q Nev s
/-- the added item laid behind the others -/
def Lays (J : Shared → Prop) : Bool → Shared → Prop
  | false, s => J s
  | true, s => Tame prog w A (eval B.add env) (fun x => Tame prog w A (call (.builtin "list.append") [acc, x]) fun _ => J) s
/-- an item taken -/
def Takes (J : Shared → Prop) (v : Value) : Shared → Prop :=
  Tame prog w A (letOwnedTupleGo B.tgt it v) fun _ => Tame prog w A (assign B.tgt env v) fun _ => Tame prog w A (allTests env B.cs) (B.Lays prog w A env acc J)
/-- what the source's next answer leads to -/
def Next (D J : Shared → Prop) : Option Value → Shared → Prop
  | none => D
  | some v => B.Takes prog w A env it acc J v
end
theorem loops {B : Blk} {prog : Program} {w : World} {A : Around} {env : Env} {it acc : Value} {R : Result → Shared → Prop} (G : Nat → Shared → Prop)
    (turn : ∀ k t, G k t → Tame prog w A (pyNext it) (B.Next prog w A env it acc (R (.ok .next)) fun u => ∃ j, j < k ∧ G j u) t)
    {k : Nat} {t : Shared} (g : G k t) : codeAny (model prog w) A (.compLoop B.expr 0 it acc env) R t := by
  have one : ∀ k t, G k t → Tame prog w A (compTurn B.expr 0 it acc env) (fun x t' => match x with | .done r => R (.ok r) t' | .again c => c = .compLoop B.expr 0 it acc env ∧ ∃ j, j < k ∧ G j t') t := by
    intro k t g
    rw [show B.expr = .ListComp B.add [⟨B.tgt, B.src, B.cs, 0⟩] B.sc B.pos from rfl, compTurn_list]
    apply wpAny_bind; apply wpAny_standAt; apply wpAny_bind
    refine thn (turn k t g) fun x t1 h1 => ?_
    match x, h1 with
    | none, h1 => exact wpAny_pure h1
    | some v, h1 =>
      apply wpAny_bind; refine thn h1 fun _ t2 h2 => ?_
      apply wpAny_bind; refine thn h2 fun _ t3 h3 => ?_
      apply wpAny_bind; refine thn h3 fun b t4 h4 => ?_
      match b, h4 with
      | false, h4 => exact wpAny_pure ⟨rfl, h4⟩
      | true, h4 =>
        apply wpAny_bind; apply wpAny_bind
        refine thn h4 fun y t5 h5 => ?_
        apply wpAny_bind
        refine thn h5 fun _ t6 h6 => ?_
        exact wpAny_pure (wpAny_pure ⟨rfl, h6⟩)
  exact codeAny_loop rfl G (fun k t g => wpAny_noted (wpAny_mono (one k t g) (fun _ _ q => q) fun _ _ f => f.elim)) k g
end Blk

/-- the tests of a clause -/
def PIfs (X : Cx) (ifs : List Expr) (t : TT) : Prop :=
  ∀ (pins : List (Addr × Obj)) (s : Shared) (σ : St) (H : Hp) (Q : Bool → Hp → Prop), Inv X pins σ H s → t σ H Q →
    wpAny (model X.prog X.w) X.A (allTests X.env ifs) (TP X pins σ Q) X.xe s
def tYes : TT := fun _ H Q => Q true H
theorem pifs_nil {X : Cx} : PIfs X [] tYes := fun _ _ _ H _ I h => wpAny_tests_nil ⟨H, I, h⟩
theorem pifs_one {X : Cx} {c : Expr} {t : TT} (h : PT X c t) : PIfs X [c] t := fun pins s σ H Q I q => wpAny_tests_one (h pins s σ H Q I q)

/-- a target sets the block's own names alone -/
def GK (n : Nat) (g : TG) : Prop := ∀ v σ H Q, g v σ H Q → g v σ H fun σ' H' => Q σ' H' ∧ σ'.length = σ.length ∧ ∀ j, n ≤ j → σ'[j]? = σ[j]?
def GKs (n : Nat) (g : TGs) : Prop := ∀ vs σ H Q, g vs σ H Q → g vs σ H fun σ' H' => Q σ' H' ∧ σ'.length = σ.length ∧ ∀ j, n ≤ j → σ'[j]? = σ[j]?
theorem gk_name {n i : Nat} (h : i < n) : GK n (gName i) := fun v σ H Q q => ⟨q, by simp, fun j hj => by rw [List.getElem?_set_ne (by omega)]⟩
theorem gks_nil {n : Nat} : GKs n gNil := fun vs σ H Q q => ⟨q.1, q.2, rfl, fun _ _ => rfl⟩
theorem gks_cons {n : Nat} {t : TG} {u : TGs} (m : ∀ v σ H Q Q', (∀ σ' H', Q σ' H' → Q' σ' H') → t v σ H Q → t v σ H Q') (mu : ∀ v σ H Q Q', (∀ σ' H', Q σ' H' → Q' σ' H') → u v σ H Q → u v σ H Q') (h1 : GK n t) (h2 : GKs n u) : GKs n (gCons t u) := fun vs σ H Q ⟨v, r, e, q⟩ =>
  ⟨v, r, e, m _ _ _ _ _ (fun σ' H' ⟨q', l1, k1⟩ => mu _ _ _ _ _ (fun σ2 H2 ⟨q2, l2, k2⟩ => ⟨q2, l2.trans l1, fun j hj => (k2 j hj).trans (k1 j hj)⟩) (h2 _ _ _ _ q')) (h1 _ _ _ _ q)⟩
theorem gk_tup {K : PySem.W.Frag} {n k : Nat} {t : TGs} (h : GKs n t) : GK n (gTup K k t) := fun v σ H Q ⟨a, xs, e, sq, l, q⟩ => ⟨a, xs, e, sq, l, h _ _ _ _ q⟩
theorem gn_mono {i : Nat} : ∀ v σ H Q Q', (∀ σ' H', Q σ' H' → Q' σ' H') → gName i v σ H Q → gName i v σ H Q' := fun _ _ _ _ _ m q => m _ _ q
theorem gnil_mono : ∀ v σ H Q Q', (∀ σ' H', Q σ' H' → Q' σ' H') → gNil v σ H Q → gNil v σ H Q' := fun _ _ _ _ _ m q => ⟨q.1, m _ _ q.2⟩
theorem gcons_mono {t : TG} {u : TGs} (m : ∀ v σ H Q Q', (∀ σ' H', Q σ' H' → Q' σ' H') → t v σ H Q → t v σ H Q') (mu : ∀ v σ H Q Q', (∀ σ' H', Q σ' H' → Q' σ' H') → u v σ H Q → u v σ H Q') : ∀ v σ H Q Q', (∀ σ' H', Q σ' H' → Q' σ' H') → gCons t u v σ H Q → gCons t u v σ H Q' :=
  fun _ _ _ _ _ mq ⟨v, r, e, q⟩ => ⟨v, r, e, m _ _ _ _ _ (fun _ _ q' => mu _ _ _ _ _ mq q') q⟩
theorem gk_two {K : PySem.W.Frag} {n k i j : Nat} (h1 : i < n) (h2 : j < n) : GK n (gTup K k (gCons (gName i) (gCons (gName j) gNil))) :=
  gk_tup (gks_cons gn_mono (gcons_mono gn_mono gnil_mono) (gk_name h1) (gks_cons gn_mono gnil_mono (gk_name h2) gks_nil))
/-- what is wanted of a list comprehension's loop: W by the turn, a measure, the items so far, the heap -/
def lcLoop (own : List Str) (fr : List Nat) (g : TG) (tt : TT) (te : TE) (σ : St) (Q : VK) (J : It) (H1 : Hp) : Prop :=
  ∃ W : Nat → Nat → List V → Hp → Prop, (∃ m, W 0 m [] H1) ∧ ∀ i m ys H2, W i m ys H2 → ys.length ≤ sizeLine ∧
    ((J.stop i H2 ∧ ∀ D, H2 D = none → Q (.ref D) (upd H2 D (.lst ys))) ∨
     (J.go i H2 ∧ ∀ x H3, J.yld i H2 x H3 → g x (cSt own fr σ) H3 fun σ4 H4 => tt σ4 H4 fun b H5 => if b = true then te σ4 H5 fun y H6 => ∃ m', m' < m ∧ W (i + 1) m' (ys ++ [y]) H6 else ∃ m', m' < m ∧ W (i + 1) m' ys H5))
def tLC (own : List Str) (fr : List Nat) (wi : TI) (g : TG) (tt : TT) (te : TE) : TE := fun σ H Q => wi σ H (lcLoop own fr g tt te σ Q)

section
variable {X : Cx} {own : List Str} {fr : List Nat} {sc : Scope} {tg iter elt : Expr} {ifs : List Expr} {pos : Pos} {wi : TI} {g : TG} {tt : TT} {te : TE}
theorem lc_core {pins : List (Addr × Obj)} {σ : St} {H2 : Hp} {s2 : Shared} {Q : VK} {it : Addr} {fp : List Addr} {tn : Nat → Heap → Prop} {J : It} {RR : Value → Addr → Result → Shared → Prop} {E : Value → Shared → Prop} (hc : X.calm = true) (S : CompSc X own fr sc) (gk : GK own.length g)
    (hg : ∀ s H fp, PG (cxC X own fr sc s H fp) tg g) (ht : ∀ s H fp, PIfs (cxC X own fr sc s H fp) ifs tt) (he : ∀ s H fp, PE (cxC X own fr sc s H fp) elt te)
    (I2 : Inv X pins σ H2 s2) (T : Turn X.prog X.w X.K tg J fp it tn) (st2 : tn 0 s2.heap) (f2 : ∀ b ∈ fp, FpOk X pins H2 b) (L : lcLoop own fr g tt te σ Q J H2)
    (hRR : ∀ D C s', (∃ m, s'.heap.Ns C m) → @LE.le Nat _ s2.heap.objs.size C → (∃ H', H' C = none ∧ Q (.ref D) H' ∧ ∀ h' tk, Heap.SameBut C s'.heap h' → Inv X pins σ H' { s' with heap := h', toks := tk }) → RR (.ref D) C (.ok .next) s') :
    wpAny (model X.prog X.w) X.A (newList []) (fun acc s₃ => wpAny (model X.prog X.w) X.A (newFunctionEnv sc X.env.globals (clOf X.env sc.names []) [] X.env.qual none .none (some X.env)) (fun cenv s₄ =>
      codeAny (model X.prog X.w) X.A (.compStart (.ListComp elt [⟨tg, iter, ifs, 0⟩] sc pos) 0 (.ref it) acc { cenv with scope := relabel sc X.env }) (RR acc cenv.locals) s₄) E s₃) E s2 := by
  obtain ⟨W, ⟨m0, w0⟩, turn⟩ := L
  refine wpAny_newObj_type (newEnv_comp ?_)
  dsimp only
  generalize hh1 : s2.heap.push { cls := .type "list", dict := none, data := .seq ([] : List Value).toArray } = h1
  have hz : h1.objs.size = s2.heap.objs.size + 1 := by rw [← hh1, Heap.size_push]
  have hk1 : ∀ b o, s2.heap.get? b = some o → h1.get? b = some o := fun b o e => by rw [← hh1]; exact Heap.get?_push_of_some _ e
  have hD1 : h1.get? s2.heap.objs.size = some { cls := .type "list", data := .seq ([] : List Value).toArray } := by rw [← hh1]; exact Heap.get?_push_size _ rfl
  have hfl : ∀ b ∈ fp, @LT.lt Nat _ b s2.heap.objs.size := fun b hb => by
    obtain ⟨o, e, _⟩ := T.obj _ _ st2 b hb
    exact Heap.lt_size e
  have I3 := inv_comp I2 S f2 hz hk1 hfl
  rw [hz]
  generalize hY : cxC X own fr sc s2 H2 fp = Y at I3
  have hD3 : (hC s2 sc h1).get? s2.heap.objs.size = some { cls := .type "list", data := .seq ([] : List Value).toArray } := pushCells_keeps _ _ _ _ (Heap.get?_push_of_some _ hD1)
  have st3 : tn 0 (hC s2 sc h1) := T.keep _ _ _ st2 fun b _ o e => pushCells_keeps _ _ _ _ (Heap.get?_push_of_some _ (hk1 b o e))
  have eP : Y.prog = X.prog := by rw [← hY]; rfl
  have eW : Y.w = X.w := by rw [← hY]; rfl
  have eK : Y.K = X.K := by rw [← hY]; rfl
  have eA : Y.A = X.A := by rw [← hY]; rfl
  have eX : Y.xe = Nev := by rw [← hY]; rfl
  have ecm : Y.calm = true := by rw [← hY]; exact hc
  have eEnv : ({ scope := relabel sc X.env, locals := s2.heap.objs.size + 1, globals := X.env.globals, cells := cellsFrom (s2.heap.objs.size + 1 + 1) sc.names (clOf X.env sc.names []), qual := X.env.qual, func := none, code := X.env.code, frame := X.env.frame, builtins := X.env.builtins } : Env) = Y.env := by rw [← hY]; rfl
  have eL : Y.env.locals = s2.heap.objs.size + 1 := by rw [← hY]; rfl
  rw [eEnv]
  have hg' : PG Y tg g := hY ▸ hg s2 H2 fp
  have ht' : PIfs Y ifs tt := hY ▸ ht s2 H2 fp
  have he' : PE Y elt te := hY ▸ he s2 H2 fp
  -- the iterator's and the list's places, in the block
  have dfp : s2.heap.objs.size ∉ fp := fun z => Nat.lt_irrefl _ (hfl _ z)
  have dC : s2.heap.objs.size ≠ s2.heap.objs.size + 1 := Nat.ne_of_lt (Nat.lt_succ_self _)
  have cellN : ∀ x c, Y.env.cells.lookup x = some c → c ≠ s2.heap.objs.size := fun x c e z => by
    obtain ⟨v, o, q, d⟩ := I3.cell x c e
    rw [z] at q
    have q' := hD3.symm.trans q
    cases q'
    cases d
  have hDfs : s2.heap.objs.size ∉ Y.fs := by
    rw [← hY]
    intro z
    rcases List.mem_cons.mp (I2.stkSub _ z) with e | e
    · exact Nat.lt_irrefl _ (by have := I2.lt; rw [← e] at this; exact this)
    · exact I2.nofs (Nat.le_refl _) e
  have hD0 : @LE.le Nat _ Y.s₀.heap.objs.size s2.heap.objs.size := by rw [← hY]; exact Nat.le_refl _
  have fpY : ∀ {H' : Hp} {pp : List (Addr × Obj)}, (∀ b ∈ fp, H' b = none) → (∀ p ∈ pp, p.1 ∉ fp) → ∀ b ∈ fp, FpOk Y pp H' b := fun {H' pp} hn hp b hb => by
    refine ⟨hn b hb, ?_, ?_, ?_, ?_, fun p hq z => ?_⟩
    · have := hfl b hb; rw [eL]; intro z; have z' : @Eq Nat b (s2.heap.objs.size + 1) := z; omega
    · rw [← hY]
      intro z
      rcases List.mem_cons.mp (I2.stkSub _ z) with e | e
      · exact (f2 b hb).2.1 e
      · exact (f2 b hb).2.2.1 e
    · exact .inl (by rw [← hY]; exact hb)
    · exact (I3.ok.exf b (by rw [← hY]; exact hb)).2
    · rcases List.mem_append.mp hq with q | q
      · have : p ∈ ([] : List (Addr × Obj)) := by rw [← hY] at q; exact q
        exact nomatch this
      · exact hp p q (z ▸ hb)
  have pinD : ∀ {H' : Hp} {s' : Shared} {σ' : St} {ob : Obj}, Inv Y [] σ' H' s' → H' s2.heap.objs.size = none → s'.heap.get? s2.heap.objs.size = some ob → (∀ v, ob.data ≠ .cell v) → Inv Y [(s2.heap.objs.size, ob)] σ' H' s' := fun {H' s' σ' ob} J0 hn e d =>
    J0.pins_of fun p hp => by
      have : p = (s2.heap.objs.size, ob) := by simpa using hp
      subst this
      exact ⟨e, hn, by rw [eL]; exact dC, hDfs, d⟩
  have fpp : ∀ {ob : Obj} (p : Addr × Obj), p ∈ [(s2.heap.objs.size, ob)] → p.1 ∉ fp := fun {ob} p hp => by
    have : p = (s2.heap.objs.size, ob) := by simpa using hp
    subst this; exact dfp
  have loop : codeAny (model X.prog X.w) X.A (.compLoop (.ListComp elt [⟨tg, iter, ifs, 0⟩] sc pos) 0 (.ref it) (.ref s2.heap.objs.size) Y.env) (RR (.ref s2.heap.objs.size) (s2.heap.objs.size + 1)) { s2 with heap := hC s2 sc h1 } := by
    refine Blk.loops (B := ⟨elt, tg, iter, ifs, sc, pos⟩) (fun n s' => ∃ i ys us k H', W i n ys H' ∧ Inv Y [] (cSt own fr σ) H' s' ∧ tn i s'.heap ∧ (∀ b ∈ fp, H' b = none) ∧ H' s2.heap.objs.size = none ∧ s'.heap.get? s2.heap.objs.size = some { cls := .type "list", data := .seq (List.toArray us) k } ∧ Vals ys us) ?_ (k := m0)
      ⟨0, [], [], _, H2, w0, I3, st3, fun b hb => (f2 b hb).1, I2.hok.fresh (Nat.le_refl _), hD3, .nil⟩
    rintro n s' ⟨i, ys, us, k, H', w', J0, st', fr', hDn, hDo, rv⟩
    obtain ⟨hyl, cases'⟩ := turn i n ys H' w'
    have J1 := pinD J0 hDn hDo (fun v z => nomatch z)
    rcases cases' with ⟨stop, fin⟩ | ⟨go, step⟩
    · have d0 := T.done Y eP eW eK ecm i _ s' _ H' Nev J1 (fpY fr' fpp) st' stop
      rw [eA] at d0
      refine wpAny_mono d0 (fun r s4 ⟨hr, J4⟩ => ?_) fun _ _ z => z
      subst hr
      have pD := (J4.pin (s2.heap.objs.size, _) (List.mem_append_right _ List.mem_cons_self)).1
      refine hRR _ _ s4 ?_ (Nat.le_succ _) ⟨upd H' s2.heap.objs.size (.lst ys), ?_, fin _ hDn, fun h' tk hs => ?_⟩
      · obtain ⟨m, hn, _⟩ := J4.loc
        rw [eL] at hn
        exact ⟨m, hn⟩
      · rw [upd_ne (Ne.symm dC), ← eL]; exact J4.free
      · subst hY
        have hO : ObjOk X.prog X.w (upd H' s2.heap.objs.size (.lst ys)) h' s2.heap.objs.size (.lst ys) := ⟨hyl, us, k, rv, (hs.2 _ dC).trans pD⟩
        exact inv_back I2 f2 J4 (Nat.le_refl _) hDn dC hs hO tk
    · have d0 := T.item Y eP eW eK ecm i _ s' _ H' Nev J1 (fpY fr' fpp) st' go
      rw [eA] at d0
      refine wpAny_mono d0 (fun r s4 ⟨u, hr, h4⟩ => ?_) fun _ _ z => z
      subst hr
      refine wpAny_mono h4 (fun _ s5 ⟨x, H5, J5, r5, y5, st5, fr5⟩ => ?_) fun _ _ z => z
      have J5' := J5.pinned (fpY fr5 fpp) (T.obj _ _ st5)
      have s1 := hg' _ s5 _ H5 x u _ J5' r5 (gk _ _ _ _ (step x H5 y5))
      rw [eP, eW, eA, eX] at s1
      refine wpAny_mono s1 (fun _ s6 ⟨σ6, H6, J6, q6, kp6⟩ => ?_) fun _ _ z => z
      have s2' := ht' _ s6 σ6 H6 _ J6 q6
      rw [eP, eW, eA, eX] at s2'
      refine wpAny_mono s2' (fun ok s7 ⟨H7, J7, q7⟩ => ?_) fun _ _ z => z
      -- the turn's end
      have low : ∀ {H8 : Hp} {s8 : Shared}, Inv Y ([(s2.heap.objs.size, ({ cls := .type "list", data := .seq (List.toArray us) k } : Obj))] ++ pinsAt fp s5.heap) σ6 H8 s8 →
          Inv Y (pinsAt fp s5.heap) σ6 H8 s8 ∧ H8 s2.heap.objs.size = none ∧ s8.heap.get? s2.heap.objs.size = some { cls := .type "list", data := .seq (List.toArray us) k } ∧ (∀ b ∈ fp, H8 b = none) ∧ tn (i + 1) s8.heap := fun {H8 s8} J8 => by
        have p8 := J8.pin (s2.heap.objs.size, _) (List.mem_append_right _ (List.mem_append_left _ List.mem_cons_self))
        refine ⟨J8.pins_of fun p hp => J8.pin p (List.mem_append_right _ (List.mem_append_right _ hp)), p8.2.1, p8.1, fun b hb => ?_, T.keep _ _ _ st5 fun b hb o e => (J8.pin (b, o) (List.mem_append_right _ (List.mem_append_right _ (mem_pinsAt hb e)))).1⟩
        obtain ⟨o, e, d⟩ := T.obj _ _ st5 b hb
        exact (J8.pin (b, o) (List.mem_append_right _ (List.mem_append_right _ (mem_pinsAt hb e)))).2.1
      have weak : ∀ {H8 : Hp} {s8 : Shared} {pp : List (Addr × Obj)}, Inv Y pp σ6 H8 s8 → Inv Y [] (cSt own fr σ) H8 s8 := fun {H8 s8 pp} J8 => (J8.weak kp6.1.symm (fun j v e => by
        by_cases hj : j < own.length
        · exfalso
          unfold cSt at e
          rw [List.getElem?_append_left (by simpa using hj), List.getElem?_replicate] at e
          split at e <;> cases e
        · rw [kp6.2 j (Nat.not_lt.mp hj)]; exact e)).pins_of fun p hp => nomatch hp
      cases ok with
      | false =>
        obtain ⟨m', hm, w7⟩ := (show ∃ m', m' < n ∧ W (i + 1) m' ys H7 by simpa using q7)
        obtain ⟨_, l1, l2, l3, l4⟩ := low J7
        exact ⟨m', hm, i + 1, ys, us, k, H7, w7, weak J7, l4, l3, l1, l2, rv⟩
      | true =>
        have q7' : te σ6 H7 fun y H6 => ∃ m', m' < n ∧ W (i + 1) m' (ys ++ [y]) H6 := by simpa using q7
        have s3 := he' _ s7 σ6 H7 _ J7 q7'
        rw [eP, eW, eA, eX] at s3
        show wpAny _ _ _ _ _ _
        refine wpAny_mono s3 (fun xv s8 ⟨y, H8, J8, r8, m', hm, w8⟩ => ?_) fun _ _ z => z
        obtain ⟨J8a, l1, l2, l3, l4⟩ := low J8
        refine append_at (hsz := by rw [List.size_toArray, ← rv.length]; exact hyl) l2 fun h' hs' hD' => ?_
        have J9 : Inv Y [] (cSt own fr σ) H8 { s8 with heap := h' } := by
          refine (weak J8a).turned (t' := s8.toks) (it := s2.heap.objs.size) (fun b o hb e => (hs'.2 b hb).trans e) l1 (by rw [eL]; exact dC) (.inr hD0) cellN fun p hp => ?_
          have : p ∈ ([] : List (Addr × Obj)) := by rw [← hY] at hp; exact hp
          exact nomatch this
        refine ⟨m', hm, i + 1, ys ++ [y], us ++ [xv], k + 1, H8, w8, J9, ?_, l3, l1, ?_, rv.append (.cons r8 .nil)⟩
        · exact T.keep _ _ _ l4 fun b hb o e => (hs'.2 b (fun z => dfp (z ▸ hb))).trans e
        · rw [hD']; simp
  exact codeAny_compStart_list loop (T.self X.A 0 _ _ _ st3 loop)
/-- [elt for tg in iter if ..] -/
theorem pe_lc (own : List Str) (fr : List Nat) (hc : X.calm = true) (S : CompSc X own fr sc) (gk : GK own.length g) (hi : PI X tg iter wi)
    (hg : ∀ s H fp, PG (cxC X own fr sc s H fp) tg g) (ht : ∀ s H fp, PIfs (cxC X own fr sc s H fp) ifs tt) (he : ∀ s H fp, PE (cxC X own fr sc s H fp) elt te)
    (hs : ∀ x, foldedSetIterable iter X.env x = pure x := by intro _; rfl) : PE X (.ListComp elt [⟨tg, iter, ifs, 0⟩] sc pos) (tLC own fr wi g tt te) := by
  intro pins s σ H Q I h
  rw [eval_ListComp]
  have hclos : closureFor sc X.env = pure (clOf X.env sc.names []) := closureFor_of fun y hy hf => I.ok.has y.1 (by
    rcases S.fre y hy hf with q | q
    · exact .inl q
    · exact .inr q)
  refine wpAny_comprehension_free (use := none) rfl hs hclos S.kind (fun y hy hl => lookup_of_mem_nd S.nd (by rw [← hl]; exact hy)) ?_
  refine thn (hi pins s σ H _ I h) fun v s1 h1 => thn h1 fun itv s2 h2 => ?_
  obtain ⟨it, fp, tn, J, H2, e, I2, T, st2, f2, L⟩ := h2
  subst e
  exact lc_core hc S gk hg ht he I2 T st2 f2 L fun D C s' ⟨m, hn⟩ _ ⟨H', _, q, hi⟩ => ⟨m, hn, fun h' hs' => ⟨.ref D, H', hi h' s'.toks hs', rfl, q⟩⟩
end
/-- a block's value stored by a name of this frame: behind the block its frame may still change -/
theorem stored_use {X : Cx} {pins : List (Addr × Obj)} {σ : St} {H2 : Hp} {s2 s' : Shared} {i : Nat} {x : Str} {pos' : Pos} {D : Addr} {C : Addr} {R : St → Hp → Prop} {E : Value → Shared → Prop} (I2 : Inv X pins σ H2 s2) (hN : X.N.Nodup) (hi : X.N[i]? = some x) (hx : X.env.scope.names.lookup x = some .local)
    (ns : ∃ m, s'.heap.Ns C m) (le : @LE.le Nat _ s2.heap.objs.size C) (h : ∃ H', H' C = none ∧ R (σ.set i (some (.ref D))) H' ∧ ∀ h' tk, Heap.SameBut C s'.heap h' → Inv X pins σ H' { s' with heap := h', toks := tk }) :
    wpAny (model X.prog X.w) X.A (assign (.Name x pos') X.env (.ref D)) (fun _ s'' => ∃ m, s''.heap.Ns C m ∧ ∀ h', Heap.SameBut C s''.heap h' → ∃ σ1 H1, Inv X pins σ1 H1 { s'' with heap := h' } ∧ R σ1 H1) E s' := by
  obtain ⟨H', hC, q, hv⟩ := h
  have I' : Inv X pins σ H' s' := hv s'.heap s'.toks (Heap.SameBut.refl _ _)
  have lt : ∀ {b : Addr} {o : Obj}, s2.heap.get? b = some o → b ≠ C := fun {b o} e z => by
    have l1 : @LT.lt Nat _ b s2.heap.objs.size := Heap.lt_size e
    have z' : @Eq Nat b C := z
    omega
  have hLC : X.env.locals ≠ C := by
    obtain ⟨m, ⟨o, _, _, e, _⟩, _⟩ := I2.loc
    exact lt e
  have hcell : ∀ y c, X.env.cells.lookup y = some c → c ≠ C := fun y c e => by
    obtain ⟨v, o, e1, _⟩ := I2.cell y c e
    exact lt e1
  refine wpAny_assign_Name (store_ok2 I' hN hi (.inl hx) (show RelV (.ref D) (.ref D) from rfl) (fun s3 I3 ⟨a, hs, ha⟩ => ?_) (.inr hx))
  have aC : a ≠ C := by
    rcases ha with e | e
    · rw [e]; exact hLC
    · exact hcell _ _ e
  obtain ⟨m, hn⟩ := ns
  refine ⟨m, hn.sameBut hs (Ne.symm aC), fun h' hs' => ⟨_, H', ?_, q⟩⟩
  refine I3.turned (t' := s3.toks) (it := C) (fun b o hb e => (hs'.2 b hb).trans e) hC (Ne.symm hLC) (.inr ?_) hcell fun p hp => ?_
  · have := I2.sz
    exact Nat.le_trans this le
  · exact lt (I2.pin p hp).1
/-- name = [elt for tg in iter if ..], the name one of this frame -/
theorem ps_setL {X : Cx} {sc : Scope} {tg iter elt : Expr} {ifs : List Expr} {pos spos pos' : Pos} {wi : TI} {g : TG} {tt : TT} {te : TE} {i : Nat} {x : Str} (own : List Str) (fr : List Nat) (hN : X.N.Nodup) (hix : X.N[i]? = some x) (hx : X.env.scope.names.lookup x = some .local) (hc : X.calm = true) (S : CompSc X own fr sc) (gk : GK own.length g) (hi : PI X tg iter wi)
    (hg : ∀ s H fp, PG (cxC X own fr sc s H fp) tg g) (ht : ∀ s H fp, PIfs (cxC X own fr sc s H fp) ifs tt) (he : ∀ s H fp, PE (cxC X own fr sc s H fp) elt te)
    (hsw : swapsWith (.ListComp elt [⟨tg, iter, ifs, 0⟩] sc pos) (some (.Name x pos')) spos.line X.env = pure true := by rfl)
    (hs : ∀ x, foldedSetIterable iter X.env x = pure x := by intro _; rfl) : PS X (.Assign [.Name x pos'] (.ListComp elt [⟨tg, iter, ifs, 0⟩] sc pos) spos) (tAsg (tLC own fr wi g tt te) (gName i)) := by
  intro pins s σ H D I h
  rw [exec_Assign_Name_used _ _ _ _ hsw]
  apply wpAny_bind; apply wpAny_standAt; apply wpAny_bind
  show wpAny _ _ (comprehension (.ListComp elt [⟨tg, iter, ifs, 0⟩] sc pos) sc X.env _ (newList []) false (eval iter X.env) (some (assign (.Name x pos') X.env)) >>= _) _ _ s
  apply wpAny_bind
  have hclos : closureFor sc X.env = pure (clOf X.env sc.names []) := closureFor_of fun y hy hf => I.ok.has y.1 (by
    rcases S.fre y hy hf with q | q
    · exact .inl q
    · exact .inr q)
  refine wpAny_mono (wpAny_comprehension_free (use := some (assign (.Name x pos') X.env)) (Q := fun _ s' => SP X pins D .next s') rfl hs hclos S.kind (fun y hy hl => lookup_of_mem_nd S.nd (by rw [← hl]; exact hy)) ?_) (fun _ s' q => wpAny_pure (wpAny_pure q)) fun _ _ z => z
  refine thn (hi pins s σ H _ I h) fun v s1 h1 => thn h1 fun itv s2 h2 => ?_
  obtain ⟨it, fp, tn, J, H2, e, I2, T, st2, f2, L⟩ := h2
  subst e
  exact lc_core hc S gk hg ht he I2 T st2 f2 L fun D0 C s' ns le h => stored_use (R := D.nx) I2 hN hix hx ns le h
end L2

set_option Elab.async false
set_option linter.all false
set_option maxRecDepth 100000
set_option maxHeartbeats 4000000
namespace L2
open PySem PySem.Spec PyProof.Rows
/-! ### a text, sign by sign -/
def Its (x : Str) : It := ⟨fun i _ => i < x.cps.size, fun i H v H' => H' = H ∧ ∃ c, x.cps[i]? = some c ∧ v = .str ⟨#[c]⟩, fun i _ => i = x.cps.size⟩
theorem go_str {M : Model} {A : Around} {E : Value → Shared → Prop} {s : Shared} {tg : Expr} {it : Addr} {x : Str} {t : Tok} {Q : Unit → Shared → Prop} (hQ : Q () s) : wpAny M A (letOwnedTupleGo tg (.ref it) (.str x t)) Q E s := by
  unfold letOwnedTupleGo
  cases tg <;> exact wpAny_pure hQ
theorem turn_str {P : Program} {w : World} {K : PySem.W.Frag} {tg : Expr} {it : Addr} {x : Str} {t : Tok} {ty : String} (W : ∀ A : Around, A.handled = none → Walks P w A it [it] [it] x.cps.size (SignAt x) (fun i h => h.IsStrIter it ty x t i))
    (hself : ∀ (A : Around) (i : Nat) (s : Shared) (Q : Value → Shared → Prop) (E : Value → Shared → Prop), s.heap.IsStrIter it ty x t i → Q (.ref it) s → wpAny (model P w) A (pyIter (.ref it)) Q E s) :
    Turn P w K tg (Its x) [it] it (fun i h => h.IsStrIter it ty x t i) where
  mem := by simp
  obj := fun i h st b hb => by
    have e : b = it := by simpa using hb
    subst e
    obtain ⟨o, e, c, d⟩ := st
    exact ⟨o, e, fun v z => by rw [d] at z; cases z⟩
  keep := fun i h h' st k => by
    obtain ⟨o, e, r⟩ := st
    exact ⟨o, k it (by simp) o e, r⟩
  item := by
    intro X hP hw hK hc i pins s σ H E I hf st hg
    subst hP hw hK
    obtain ⟨f0, f1, f2, f3, f4, f5⟩ := hf it (by simp)
    refine (W X.A (I.ok.hd hc)).item i s _ _ hg st fun v h' tk hv st' kk => ?_
    obtain ⟨c, u, hx, rfl⟩ := hv
    have I1 : Inv X pins σ H { s with heap := h', toks := tk } := I.turned (fun b o hb e => kk b o (by simpa using hb) e) f0 f1 f3 f4 f5
    exact ⟨_, rfl, go_str ⟨.str ⟨#[c]⟩, H, I1, ⟨u, rfl⟩, ⟨rfl, c, hx, rfl⟩, st', fun b hb => (hf b hb).1⟩⟩
  done := by
    intro X hP hw hK hc i pins s σ H E I hf st hg
    subst hP hw hK
    obtain ⟨f0, f1, f2, f3, f4, f5⟩ := hf it (by simp)
    have hg' : i = x.cps.size := hg
    subst hg'
    exact (W X.A (I.ok.hd hc)).done s _ _ st fun h' tk kk => ⟨rfl, I.turned (fun b o hb e => kk b o (by simpa using hb) e) f0 f1 f3 f4 f5⟩
  self := hself
section
variable {X : Cx} {tg : Expr}
def iStr (tl : TE) : TI := fun σ H R => tl σ H fun x H1 => ∃ z, x = .str z ∧ R (Its z) H1
theorem pi_str {l : Expr} {tl : TE} (hl : PE X l tl) : PI X tg l (iStr tl) := by
  intro pins s σ H R I h
  refine thn (hl pins s σ H _ I h) fun v s1 ⟨x, H1, I1, r1, q1⟩ => ?_
  obtain ⟨z, rfl, q⟩ := q1
  obtain ⟨t, rfl⟩ := r1
  have fin : ∀ ty : String, (∀ A : Around, A.handled = none → Walks X.prog X.w A s1.heap.objs.size [s1.heap.objs.size] [s1.heap.objs.size] z.cps.size (SignAt z) (fun i h => h.IsStrIter s1.heap.objs.size ty z t i)) →
      (∀ (A : Around) (i : Nat) (s : Shared) (Q : Value → Shared → Prop) (E : Value → Shared → Prop), s.heap.IsStrIter s1.heap.objs.size ty z t i → Q (.ref s1.heap.objs.size) s → wpAny (model X.prog X.w) A (pyIter (.ref s1.heap.objs.size)) Q E s) →
      PIE X pins σ tg R (.ref s1.heap.objs.size) { s1 with heap := s1.heap.push { cls := .type ty, data := .fields #[.str z t, .int 0 0] } } := fun ty W hself => by
    refine ⟨s1.heap.objs.size, [s1.heap.objs.size], _, _, H1, rfl, I1.kept (t' := s1.toks) fun b o e => Heap.get?_push_of_some _ e, turn_str W hself, ⟨_, Heap.get?_push_size _ rfl, rfl, rfl⟩, fun b hb => ?_, q⟩
    have e : b = s1.heap.objs.size := by simpa using hb
    subst e
    exact I1.fpOk (Nat.le_refl _) (I1.hok.fresh (Nat.le_refl _))
  cases ha : z.cps.all (· < 128)
  · exact wpAny_pyIter_wide ha (fin _ (fun A hA => Walks.strWide hA _ z t) fun A i s Q E st q => wpAny_pyIter_striter_wide st q)
  · exact wpAny_pyIter_ascii ha (fin _ (fun A hA => Walks.strAscii hA _ z t) fun A i s Q E st q => wpAny_pyIter_striter_ascii st q)

/-! ### built-ins -/
theorem vals_bl_get : ∀ {bs : List Bool} {us : List Value} {i : Nat} {u : Value}, Vals (bs.map V.bl) us → us[i]? = some u → ∃ b, bs[i]? = some b ∧ u = .bool b
  | [], _, i, u, .nil, e => by simp at e
  | b :: bs, _, 0, u, .cons r _, e => by simp at e; subst e; exact ⟨b, rfl, r⟩
  | b :: bs, _, i + 1, u, .cons _ t, e => by
    obtain ⟨b', h1, h2⟩ := vals_bl_get (i := i) (u := u) t (by simpa using e)
    exact ⟨b', by simpa using h1, h2⟩
theorem range_all (bs : List Bool) : ((List.range bs.length).all fun i => bs.getD i false) = bs.all id := by
  induction bs with
  | nil => rfl
  | cons b bs ih =>
    rw [List.length_cons, List.range_succ_eq_map, List.all_cons, List.all_map, List.all_cons]
    have e : ((fun i => (b :: bs).getD i false) ∘ Nat.succ) = fun i => bs.getD i false := by funext i; simp
    rw [e, ih]; simp
theorem range_any (bs : List Bool) : ((List.range bs.length).any fun i => bs.getD i false) = bs.any id := by
  induction bs with
  | nil => rfl
  | cons b bs ih =>
    rw [List.length_cons, List.range_succ_eq_map, List.any_cons, List.any_map, List.any_cons]
    have e : ((fun i => (b :: bs).getD i false) ∘ Nat.succ) = fun i => bs.getD i false := by funext i; simp
    rw [e, ih]; simp
theorem call_all (hc : X.calm = true) : CallR X (.builtin "all") (fun xs H Q => ∃ (p : Addr) (bs : List Bool), xs = [.ref p] ∧ SqL X.K H p (bs.map V.bl) ∧ Q (.bl (bs.all id)) H) := by
  intro pins s σ H xs us Q I r h
  obtain ⟨p, bs, rfl, hq, q⟩ := h
  obtain ⟨u, rfl, rx⟩ := vals1 r
  cases rx
  obtain ⟨its, rv, pl, hz⟩ := I.list hq
  have hlt : p < s.heap.objs.size := by obtain ⟨o, n, e, _⟩ := pl; exact Heap.lt_size e
  have hlen : its.length = bs.length := by rw [← rv.length, List.length_map]
  refine call_all_walk (wpAny_pyIter_list pl.isList ?_)
  refine ⟨s.heap.objs.size, _, _, its.toArray.size, _, _, fun i => bs.getD i false, rfl, Walks.list (A := X.A.in1) (I.ok.hd hc) s.heap.objs.size p (Nat.ne_of_lt hlt) its.toArray, ⟨⟨_, Heap.get?_push_size _ rfl, rfl, rfl⟩, pl.isList.push _⟩, fun i v s' Q' E' hP hQ => ?_, fun h' tk hk => ?_⟩
  · obtain ⟨b, h1, rfl⟩ := vals_bl_get rv (by simpa using hP)
    refine wpAny_truthy_bool ?_
    have e : bs.getD i false = b := by rw [List.getD, h1]; rfl
    rw [← e]; exact hQ
  · rw [List.size_toArray, hlen, range_all]
    refine ⟨.bl _, H, ?_, rfl, q⟩
    have J : Inv X pins σ H { s with heap := h', toks := tk } := I.kept fun b o e => hk b o (fun z => absurd (Heap.lt_size e) (by rw [List.mem_singleton.mp z]; exact Nat.lt_irrefl _)) (Heap.get?_push_of_some _ e)
    exact J
theorem call_any (hc : X.calm = true) : CallR X (.builtin "any") (fun xs H Q => ∃ (p : Addr) (bs : List Bool), xs = [.ref p] ∧ SqL X.K H p (bs.map V.bl) ∧ Q (.bl (bs.any id)) H) := by
  intro pins s σ H xs us Q I r h
  obtain ⟨p, bs, rfl, hq, q⟩ := h
  obtain ⟨u, rfl, rx⟩ := vals1 r
  cases rx
  obtain ⟨its, rv, pl, hz⟩ := I.list hq
  have hlt : p < s.heap.objs.size := by obtain ⟨o, n, e, _⟩ := pl; exact Heap.lt_size e
  have hlen : its.length = bs.length := by rw [← rv.length, List.length_map]
  refine call_any_walk (wpAny_pyIter_list pl.isList ?_)
  refine ⟨s.heap.objs.size, _, _, its.toArray.size, _, _, fun i => bs.getD i false, rfl, Walks.list (A := X.A.in1) (I.ok.hd hc) s.heap.objs.size p (Nat.ne_of_lt hlt) its.toArray, ⟨⟨_, Heap.get?_push_size _ rfl, rfl, rfl⟩, pl.isList.push _⟩, fun i v s' Q' E' hP hQ => ?_, fun h' tk hk => ?_⟩
  · obtain ⟨b, h1, rfl⟩ := vals_bl_get rv (by simpa using hP)
    refine wpAny_truthy_bool ?_
    have e : bs.getD i false = b := by rw [List.getD, h1]; rfl
    rw [← e]; exact hQ
  · rw [List.size_toArray, hlen, range_any]
    refine ⟨.bl _, H, ?_, rfl, q⟩
    have J : Inv X pins σ H { s with heap := h', toks := tk } := I.kept fun b o e => hk b o (fun z => absurd (Heap.lt_size e) (by rw [List.mem_singleton.mp z]; exact Nat.lt_irrefl _)) (Heap.get?_push_of_some _ e)
    exact J
theorem call_isinst {T : String} : CallR X (.builtin "isinstance") (fun xs H Q => ∃ x t b, xs = [x, .ty T] ∧ TyOf X.K H x t ∧ PySem.W.kitOne X.K t (.type T) = some b ∧ Q (.bl b) H) := by
  intro pins s σ H xs us Q I r h
  obtain ⟨x, t, b, rfl, ty, e, q⟩ := h
  obtain ⟨u, v, rfl, ru, rv⟩ := vals2 r
  cases rv
  exact isinst_ok I ru ty e fun tk => ⟨.bl b, H, I.tok _, rfl, q⟩
theorem strs_of : ∀ {ys : List Str} {us : List Value}, Vals (ys.map V.str) us → StrsAre us ys
  | [], _, .nil => .nil
  | y :: ys, _, .cons r t => by obtain ⟨k, rfl⟩ := (show ∃ k, _ = Value.str y k from r); exact .cons y k (strs_of t)
theorem mt_join : MtR X "str.join" (fun x vs H Q => ∃ (sep : Str) (p : Addr) (ys : List Str), x = .str sep ∧ vs = [.ref p] ∧ SqL X.K H p (ys.map V.str) ∧ (ys.map (·.length)).sum + ys.length * sep.length ≤ 16777216 ∧ Q (.str (Txt.join sep ys)) H) := by
  intro pins s σ H x xs v us Q I rx r h
  obtain ⟨sep, p, ys, rfl, rfl, hq, hl, q⟩ := h
  obtain ⟨u, rfl, ru⟩ := vals1 r
  cases ru
  obtain ⟨t, rfl⟩ := rx
  obtain ⟨its, rv, pl, hz⟩ := I.list hq
  exact join_list pl.isList (by simpa using strs_of rv) hl fun t' k => ⟨.str _, H, I.tok _, ⟨t', rfl⟩, q⟩
def rSlS : V → Option Int → Option Int → Hp → VK → Prop := fun x lo hi H Q => ∃ z, x = .str z ∧ z.length ≤ sizeLine ∧ Q (.str (Txt.slice z lo hi)) H
theorem sl_str : SlR X rSlS := by
  intro pins s σ H x v vl vu lo hi sl Q I rx hs pl pu h
  obtain ⟨z, rfl, hz, q⟩ := h
  obtain ⟨t, rfl⟩ := rx
  refine ⟨"str", _, F.slot_str_getitem.lookup, typeIs_str _ _ _, ?_⟩
  have fin : ∀ t' k, EP X pins σ Q (.str (Txt.slice z lo hi) t') { s with toks := k } := fun t' k => ⟨.str _, H, I.tok _, ⟨t', rfl⟩, q⟩
  cases pl with
  | none =>
    cases pu with
    | none => exact wpAny_getItem_str_slice (l := none) (u := none) (st := none) hs rfl (post_val_or_str ⟨Nat.le_trans (Txt.slice_le z _ _) hz, fun t' k => fin t' k⟩)
    | int j uj => exact wpAny_getItem_str_slice (l := none) (u := some (j, uj)) (st := none) hs rfl (post_val_or_str ⟨Nat.le_trans (Txt.slice_le z _ _) hz, fun t' k => fin t' k⟩)
  | int i ui =>
    cases pu with
    | none => exact wpAny_getItem_str_slice (l := some (i, ui)) (u := none) (st := none) hs rfl (post_val_or_str ⟨Nat.le_trans (Txt.slice_le z _ _) hz, fun t' k => fin t' k⟩)
    | int j uj => exact wpAny_getItem_str_slice (l := some (i, ui)) (u := some (j, uj)) (st := none) hs rfl (post_val_or_str ⟨Nat.le_trans (Txt.slice_le z _ _) hz, fun t' k => fin t' k⟩)
theorem op_le_str : OpR X (compareOp .LtE) (fun x y H Q => ∃ i j, x = .str i ∧ y = .str j ∧ Q (.bl (!decide (j.cps.toList < i.cps.toList))) H) := by
  intro pins s σ H x y v u Q I rx ry h
  obtain ⟨i, j, rfl, rfl, q⟩ := h
  obtain ⟨t, rfl⟩ := rx
  obtain ⟨t', rfl⟩ := ry
  exact PySem.P.le_str ⟨.bl _, H, I, rfl, by simpa using q⟩
theorem op_isnot_bl : OpR X (compareOp .IsNot) (fun x y H Q => ∃ i j, x = .bl i ∧ y = .bl j ∧ Q (.bl (!(i == j))) H) := by
  intro pins s σ H x y v u Q I rx ry h
  obtain ⟨i, j, rfl, rfl, q⟩ := h
  cases rx
  cases ry
  refine wpAny_isNot_plain (by rfl) ⟨.bl _, H, I, rfl, ?_⟩
  cases i <;> cases j <;> exact q
theorem vals_of_get : ∀ {xs : List V} {us : List Value}, xs.length = us.length → (∀ (j : Nat) (u : Value), us[j]? = some u → ∃ x, xs[j]? = some x ∧ RelV x u) → Vals xs us
  | [], [], _, _ => .nil
  | [], _ :: _, h, _ => by simp at h
  | _ :: _, [], h, _ => by simp at h
  | x :: xs, u :: us, h, g => by
    obtain ⟨x', e, r⟩ := g 0 u rfl
    have : x = x' := by simpa using e
    subst this
    exact .cons r (vals_of_get (by simpa using h) fun j w e => by simpa using g (j + 1) w (by simpa using e))
theorem call_list_str (hc : X.calm = true) : CallR X (.type "list") (fun xs H Q => ∃ z, xs = [.str z] ∧ z.cps.size ≤ sizeLine ∧ ∀ l, H l = none → Q (.ref l) (upd H l (.lst (z.cps.toList.map fun c => V.str ⟨#[c]⟩)))) := by
  intro pins s σ H xs us Q I r h
  obtain ⟨z, rfl, hz, q⟩ := h
  obtain ⟨u, rfl, ru⟩ := vals1 r
  obtain ⟨t, rfl⟩ := ru
  refine PySem.call_list_str (I.ok.hd hc) z t (fun h' tk acc c' hk hS hacc => ?_) hz
  refine ⟨.ref s.heap.objs.size, _, I.laid (t' := tk) (o := .lst (z.cps.toList.map fun c => V.str ⟨#[c]⟩)) hk (Nat.le_refl _) ?_, rfl, q _ (I.hok.fresh (Nat.le_refl _))⟩
  refine ⟨by simpa using hz, acc.toList, c', vals_of_get (by simp [hacc.1]) fun j w e => ?_, by simpa using hS⟩
  obtain ⟨c, k, h1, rfl⟩ := hacc.2 j w (by simpa using e)
  exact ⟨.str ⟨#[c]⟩, by simp [h1], ⟨k, rfl⟩⟩
end

/-! ### the forms one uses of a list comprehension -/
theorem lc_range {own : List Str} {fr : List Nat} {g : TG} {tt : TT} {te : TE} {σ : St} {Q : VK} {lo : Int} {n : Nat} {H : Hp} (Pv : Nat → List V → Hp → Prop) (h0 : Pv 0 [] H) (hlen : ∀ i ys H, i ≤ n → Pv i ys H → ys.length ≤ sizeLine)
    (hs : ∀ i ys H (R : List V → Hp → Prop), i < n → Pv i ys H → (∀ ys' H', Pv (i + 1) ys' H' → R ys' H') → g (.int (lo + i)) (cSt own fr σ) H fun σ4 H4 => tt σ4 H4 fun b H5 => if b = true then te σ4 H5 fun y H6 => R (ys ++ [y]) H6 else R ys H5)
    (hd : ∀ ys H, Pv n ys H → ∀ D, H D = none → Q (.ref D) (upd H D (.lst ys))) : lcLoop own fr g tt te σ Q (Itr lo n) H := by
  refine ⟨fun i m ys H => m = n - i ∧ i ≤ n ∧ Pv i ys H, ⟨n, rfl, Nat.zero_le _, h0⟩, ?_⟩
  rintro i m ys H2 ⟨rfl, hi, p⟩
  refine ⟨hlen i ys H2 hi p, ?_⟩
  by_cases h : i < n
  · refine .inr ⟨h, fun x H3 hy => ?_⟩
    obtain ⟨rfl, rfl⟩ := hy
    exact hs i ys _ (fun ys' H' => ∃ m', m' < n - i ∧ (m' = n - (i + 1) ∧ i + 1 ≤ n ∧ Pv (i + 1) ys' H')) h p fun ys' H' q => ⟨n - (i + 1), by omega, rfl, h, q⟩
  · have e : i = n := by omega
    subst e
    exact .inl ⟨Nat.le_refl _, hd ys H2 p⟩
theorem lc_list {K : PySem.W.Frag} {a : Addr} {xs : List V} {own : List Str} {fr : List Nat} {g : TG} {tt : TT} {te : TE} {σ : St} {Q : VK} {H : Hp} (Pv : Nat → List V → Hp → Prop) (h0 : Pv 0 [] H) (hlen : ∀ i ys H, i ≤ xs.length → Pv i ys H → ys.length ≤ sizeLine)
    (hl : ∀ i ys H, i ≤ xs.length → Pv i ys H → SqL K H a xs)
    (hs : ∀ i x ys H (R : List V → Hp → Prop), xs[i]? = some x → Pv i ys H → (∀ ys' H', Pv (i + 1) ys' H' → R ys' H') → g x (cSt own fr σ) H fun σ4 H4 => tt σ4 H4 fun b H5 => if b = true then te σ4 H5 fun y H6 => R (ys ++ [y]) H6 else R ys H5)
    (hd : ∀ ys H, Pv xs.length ys H → ∀ D, H D = none → Q (.ref D) (upd H D (.lst ys))) : lcLoop own fr g tt te σ Q (Itl K a) H := by
  refine ⟨fun i m ys H => m = xs.length - i ∧ i ≤ xs.length ∧ Pv i ys H, ⟨xs.length, rfl, Nat.zero_le _, h0⟩, ?_⟩
  rintro i m ys H2 ⟨rfl, hi, p⟩
  refine ⟨hlen i ys H2 hi p, ?_⟩
  have q := hl i ys H2 hi p
  by_cases h : i < xs.length
  · refine .inr ⟨⟨xs, xs[i], q, by simp [h]⟩, fun x H3 hy => ?_⟩
    obtain ⟨rfl, hy⟩ := hy
    exact hs i x ys _ (fun ys' H' => ∃ m', m' < xs.length - i ∧ (m' = xs.length - (i + 1) ∧ i + 1 ≤ xs.length ∧ Pv (i + 1) ys' H')) (hy xs q) p fun ys' H' q => ⟨xs.length - (i + 1), by omega, rfl, h, q⟩
  · have e : i = xs.length := by omega
    subst e
    exact .inl ⟨⟨xs, q, Nat.le_refl _⟩, hd ys H2 p⟩
theorem lc_tup {K : PySem.W.Frag} {a : Addr} {xs : List V} {own : List Str} {fr : List Nat} {g : TG} {tt : TT} {te : TE} {σ : St} {Q : VK} {H : Hp} (Pv : Nat → List V → Hp → Prop) (h0 : Pv 0 [] H) (hlen : ∀ i ys H, i ≤ xs.length → Pv i ys H → ys.length ≤ sizeLine)
    (hl : ∀ i ys H, i ≤ xs.length → Pv i ys H → SqT K H a xs)
    (hs : ∀ i x ys H (R : List V → Hp → Prop), xs[i]? = some x → Pv i ys H → (∀ ys' H', Pv (i + 1) ys' H' → R ys' H') → g x (cSt own fr σ) H fun σ4 H4 => tt σ4 H4 fun b H5 => if b = true then te σ4 H5 fun y H6 => R (ys ++ [y]) H6 else R ys H5)
    (hd : ∀ ys H, Pv xs.length ys H → ∀ D, H D = none → Q (.ref D) (upd H D (.lst ys))) : lcLoop own fr g tt te σ Q (Itt K a) H := by
  refine ⟨fun i m ys H => m = xs.length - i ∧ i ≤ xs.length ∧ Pv i ys H, ⟨xs.length, rfl, Nat.zero_le _, h0⟩, ?_⟩
  rintro i m ys H2 ⟨rfl, hi, p⟩
  refine ⟨hlen i ys H2 hi p, ?_⟩
  have q := hl i ys H2 hi p
  by_cases h : i < xs.length
  · refine .inr ⟨⟨xs, xs[i], q, by simp [h]⟩, fun x H3 hy => ?_⟩
    obtain ⟨rfl, hy⟩ := hy
    exact hs i x ys _ (fun ys' H' => ∃ m', m' < xs.length - i ∧ (m' = xs.length - (i + 1) ∧ i + 1 ≤ xs.length ∧ Pv (i + 1) ys' H')) (hy xs q) p fun ys' H' q => ⟨xs.length - (i + 1), by omega, rfl, h, q⟩
  · have e : i = xs.length := by omega
    subst e
    exact .inl ⟨⟨xs, q, Nat.le_refl _⟩, hd ys H2 p⟩
theorem glue_size (sep : Str) : ∀ (rest : List Str) (acc : Array Nat), (rest.foldl (fun acc p => acc ++ sep.cps ++ p.cps) acc).size = acc.size + (rest.map (·.length)).sum + rest.length * sep.length
  | [], acc => by simp
  | p :: r, acc => by
    rw [List.foldl_cons, glue_size sep r, List.map_cons, List.sum_cons, List.length_cons, Array.size_append, Array.size_append]
    have e1 : sep.length = sep.cps.size := rfl
    have e2 : p.length = p.cps.size := rfl
    rw [e1, e2, Nat.add_mul]
    omega
theorem join_le (sep : Str) (ys : List Str) : (Txt.join sep ys).length ≤ (ys.map (·.length)).sum + ys.length * sep.length := by
  cases ys with
  | nil => exact Nat.zero_le _
  | cons x r =>
    show (Builtin.Str.glued sep (x :: r)).length ≤ _
    have q : (Builtin.Str.glued sep (x :: r)).length = x.cps.size + (r.map (·.length)).sum + r.length * sep.length := by
      show (r.foldl (fun acc p => acc ++ sep.cps ++ p.cps) x.cps).size = _
      exact glue_size sep r x.cps
    rw [q, List.map_cons, List.sum_cons, List.length_cons, Nat.add_mul]
    have e2 : x.length = x.cps.size := rfl
    omega
end L2

set_option Elab.async false
set_option linter.all false
set_option maxRecDepth 100000
set_option maxHeartbeats 4000000
namespace L2
open PySem PySem.Spec PyProof.Rows

theorem ObjOk.there {P : Program} {w : World} {H : Hp} {h : Heap} {a : Addr} {o : HO} (x : ObjOk P w H h a o) : ∃ u, h.get? a = some u := by
  cases o with
  | lst xs => obtain ⟨_, _, _, _, e⟩ := x; exact ⟨_, e⟩
  | tup xs => obtain ⟨_, _, _, o, e, _⟩ := x; exact ⟨_, e⟩
  | dK kvs => obtain ⟨_, _, _, _, o, _, _, e, _⟩ := x; exact ⟨_, e⟩
  | dT kvs => obtain ⟨_, _, _, _, o, _, _, e, _⟩ := x; exact ⟨_, e⟩
  | set S n => obtain ⟨o, _, _, _, e, _⟩ := x; exact ⟨_, e⟩
  | ins C dx fs => obtain ⟨_, _, _, e, _⟩ := x; exact ⟨_, e⟩
  | own y => exact x
  | xd fs => obtain ⟨_, ⟨_, _, _, e, _⟩, _⟩ := x; exact ⟨_, e⟩
  | rng lo hi => obtain ⟨_, _, _, e⟩ := x; exact ⟨_, e⟩
  | frz ob u => obtain ⟨e, _⟩ := x; exact ⟨_, e⟩
  | tbl ps => exact ⟨_, (show h.get? a = some _ from x)⟩
  | met f y => exact ⟨_, (show h.get? a = some _ from x)⟩
  | ext φ => obtain ⟨_, e, _⟩ := x; exact e

/-- an exception flies behind a call: the callers' frames, the abstract heap and the state ahead of the call, the heap behind it, where it stands, its class -/
structure Fly (P : Program) (w : World) (outer : List Env) (H : Hp) (s : Shared) (H' : Hp) (a : Addr) (cls : Value) (s' : Shared) : Prop where
  os : s'.os = s.os
  bare : AllBare s'.gens
  un : Un (frs outer) [] H H' s.heap s'.heap
  hok : HOk P w H' s'.heap
  an : H' a = none
  fly : ∃ (B : Heap) (a0 : Value), Heap.FlyingW B outer a cls a0 s'.heap ∧ ∀ b o, s'.heap.get? b = some o → ((∃ q, s.heap.get? b = some q) ∨ ∃ u, H' b = some u) → b ∉ frs outer → B.get? b = some o
/-- how an exception lies behind a call -/
def CXO (P : Program) (w : World) : CXT := fun outer H s E e s' => ∃ a cls H', e = .ref a ∧ Fly P w outer H s H' a cls s' ∧ E cls none H'
theorem passN {P : Program} {w : World} {X : Cx} : Passes (CXO P w) X E0 := fun _ _ _ _ _ _ _ ⟨_, _, _, _, _, h⟩ => h.elim

section
variable {CX : CXT} {P : Program} {w : World} {K : PySem.W.Frag} {mg : Str → Option Value} {base : Heap} {N : List Str} {qual : Str} {scope : Scope} {f : Addr} {cdv : Value} {A : Around} {outer : List Env} {s s1 s2 : Shared} {H H1 H2 : Hp} {E : XK}
  {pins : List (Addr × Obj)} {σ : St} {a : Addr} {cls a0 : Value} {B h' : Heap}
/-- one frame further out: I the body's state, s2 behind a call that raised there (or s1 itself), B what is kept -/
theorem fly_out (I : Inv (cxOf CX P w K mg base N qual scope f cdv A outer s H E) pins σ H1 s1) (os : s2.os = s1.os) (bare : AllBare s2.gens)
    (un : Un (frs (envOfC qual scope s.heap.objs.size f cdv :: outer)) [] H1 H2 s1.heap s2.heap) (hok : HOk P w H2 s2.heap) (an : H2 a = none)
    (hB : ∀ b o, s2.heap.get? b = some o → ((∃ q, s1.heap.get? b = some q) ∨ ∃ u, H2 b = some u) → b ∉ frs (envOfC qual scope s.heap.objs.size f cdv :: outer) → B.get? b = some o)
    (hfl : Heap.FlyingW B outer a cls a0 h') (hsl : ∀ b ∈ frs outer, ∀ o, s2.heap.get? b = some o → ∃ sl, h'.get? b = some { o with slots := sl }) : Fly P w outer H s H2 a cls { s2 with heap := h' } := by
  have fr : frs (envOfC qual scope s.heap.objs.size f cdv :: outer) = s.heap.objs.size :: frs outer := rfl
  have old : ∀ b o, s.heap.get? b = some o → b ≠ s.heap.objs.size := fun b o e => Nat.ne_of_lt (Heap.lt_size e)
  have nin : ∀ b, b ≠ s.heap.objs.size → b ∉ frs outer → b ∉ frs (envOfC qual scope s.heap.objs.size f cdv :: outer) := fun b h1 h2 z => by
    rw [fr] at z
    rcases List.mem_cons.mp z with z | z
    · exact h1 z
    · exact h2 z
  have u1 : Un (frs outer) [] H H1 s.heap s1.heap := I.base
  have hst : ∀ b ∈ frs (envOfC qual scope s.heap.objs.size f cdv :: outer), H2 b = none := fun b hb => by
    obtain ⟨_, o, e, _⟩ := I.stack.mem (show b ∈ (envOfC qual scope s.heap.objs.size f cdv :: outer).filterMap (·.frame) from hb)
    exact un.free b o e (I.stkFree b hb) (by simp)
  have there2 : ∀ b o, s.heap.get? b = some o → ∃ o', s2.heap.get? b = some o' := fun b o e => by
    obtain ⟨o1, e1⟩ := u1.there b o e (by simp)
    exact un.there b o1 e1 (by simp)
  have inB : ∀ b o, s.heap.get? b = some o → b ∉ frs outer → ∀ o2, s2.heap.get? b = some o2 → h'.get? b = some o2 := fun b o e hb o2 e2 => by
    obtain ⟨o1, e1⟩ := u1.there b o e (by simp)
    exact hfl.1 b o2 (hB b o2 e2 (.inl ⟨o1, e1⟩) (nin b (old b o e) hb))
  have trB : ∀ b u, H2 b = some u → ∀ o2, s2.heap.get? b = some o2 → h'.get? b = some o2 := fun b u e o2 e2 =>
    hfl.1 b o2 (hB b o2 e2 (.inr ⟨u, e⟩) fun z => by rw [hst b z] at e; cases e)
  refine ⟨os.trans I.os, bare, ⟨fun b o e n hb hx => ?_, fun b o e n hb hx => ?_, fun b o e n hx => ?_, fun b o e hx => ?_, fun b xs e => un.tups b xs (u1.tups b xs e), fun b o u e => un.frzs b o u (u1.frzs b o u e), fun b ps e => ?_⟩, fun b u e => ?_, an, ⟨B, a0, hfl, fun b o e hh hb => ?_⟩⟩
  · exact inB b o e hb o (un.keep b o (u1.keep b o e n hb hx) (u1.free b o e n hx) (nin b (old b o e) hb) hx)
  · obtain ⟨sl, e1⟩ := u1.slot b o e n hb hx
    obtain ⟨sl2, e2⟩ := un.any e1 (u1.free b o e n hx) hx
    obtain ⟨sl3, e3⟩ := hsl b hb _ e2
    exact ⟨sl3, e3⟩
  · obtain ⟨o1, e1⟩ := u1.there b o e hx
    exact un.free b o1 e1 (u1.free b o e n hx) hx
  · obtain ⟨o2, e2⟩ := there2 b o e
    by_cases hb : b ∈ frs outer
    · obtain ⟨sl, e3⟩ := hsl b hb _ e2
      exact ⟨_, e3⟩
    · exact ⟨o2, inB b o e hb o2 e2⟩
  · obtain ⟨m1, e1⟩ := u1.tbls b ps e
    obtain ⟨m2, e2⟩ := un.tbls b _ e1
    exact ⟨m1 ++ m2, by rw [e2, Array.append_assoc]⟩
  · refine (hok b u e).stay (fun c v hc q => ?_) (fun _ q => q) fun _ _ q => q
    rcases hc with z | z
    · subst z; exact trB c u e v q
    · exact trB c _ z v q
  · rcases hh with ⟨q, hq⟩ | ⟨u, hu⟩
    · obtain ⟨o2, e2⟩ := there2 b q hq
      have e3 := inB b q hq hb o2 e2
      have e' : h'.get? b = some o := e
      rw [e3] at e'; cases e'
      obtain ⟨o1, e1⟩ := u1.there b q hq (by simp)
      exact hB b _ e2 (.inl ⟨o1, e1⟩) (nin b (old b q hq) hb)
    · obtain ⟨o2, e2⟩ := (hok b u hu).there
      have e3 := trB b u hu o2 e2
      have e' : h'.get? b = some o := e
      rw [e3] at e'; cases e'
      exact hB b _ e2 (.inr ⟨u, hu⟩) fun z => by rw [hst b z] at hu; cases hu
/-- an exception of a callee goes on through a def's body -/
theorem passO : Passes (CXO P w) (cxOf (CXO P w) P w K mg base N qual scope f cdv A outer s H E) E := by
  intro pins σ H1 s1 e s2 I ⟨a, cls, H2, he, F, hE⟩
  subst he
  obtain ⟨B, a0, hfl, hB⟩ := F.fly
  have hfr : (A.deeper (envOfC qual scope s.heap.objs.size f cdv)).frames = some (envOfC qual scope s.heap.objs.size f cdv :: outer) := I.ok.frames
  show wpAny _ _ (leaving _ _) _ _ _
  refine wpAny_leaves_onW hfr rfl hfl fun h' x1 x2 => ⟨a, cls, H2, rfl, ?_, hE⟩
  refine fly_out I F.os F.bare F.un F.hok F.an hB x1 fun b hb o e => x2 b o e ?_
  obtain ⟨_, o', e', d⟩ := hfl.2.2.1.mem (show b ∈ (envOfC qual scope s.heap.objs.size f cdv :: outer).filterMap (·.frame) from List.mem_cons_of_mem _ hb)
  rw [e] at e'; cases e'
  exact d
theorem own_cls {K : PySem.W.Frag} {h : Heap} {mg : Str → Option Value} {x : Str} {C : Addr} {bmB : List Value} {newId : String} (X : K.In h) (b : mg x = some (.ref C)) (q : PySem.W.excIn K C bmB newId = true) : OwnCls x C bmB newId mg h := by
  have no : ∀ {P : Prop}, false = true → P := fun z => absurd z Bool.false_ne_true
  unfold PySem.W.excIn at q
  split at q <;> first | exact no q | skip
  next dict data slots found =>
  split at q <;> first | exact no q | skip
  next first above w0 w1 w2 w3 made w5 order listed =>
  simp only [Bool.and_eq_true] at q
  obtain ⟨⟨⟨⟨⟨isC, isNew⟩, noDel⟩, tail⟩, ok⟩, noInit⟩ := q
  have eC : first = C := beq_iff_eq.mp isC
  have eN : made = newId := beq_iff_eq.mp isNew
  have eD : data.hasDel = false := by simpa using noDel
  have eS : slots = #[w0, w1, w2, w3, some (.builtin made), w5] := Array.toList_inj.mp (by rw [listed])
  cases data
  simp only at order eD
  subst eC eN order eD eS
  exact { bound := b, obj := ⟨above, _, _, _, _, _, _, _, _, _, dict, w0, w1, w2, w3, w5, _, X _ _ found, .of_isNs (PySem.W.isNs_of_in X ok), PySem.W.nsMap_none_of_in X ok (by simpa using noInit), PySem.W.tail_of_in X tail⟩ }
/-- raise C(..) of an own error class, in a def's body -/
def tRaise (C : Addr) (t : TA) (E : XK) : TS := fun D σ H => t σ H fun vs H1 => vs.length ≤ sizeLine ∧ E (.ref C) none H1
theorem ps_raise {x : Str} {C : Addr} {bm : List Value} {Bn newId initId : String} {np cpos pos : Pos} {e₀ : Expr} {rest : List Expr} {t : TA} (hx : Gl (cxOf (CXO P w) P w K mg base N qual scope f cdv A outer s H E) x) (b : mg x = some (.ref C)) (q : PySem.W.excIn K C bm newId = true) (FB : ExcBaseFacts Bn newId initId bm)
    (ha : PA (cxOf (CXO P w) P w K mg base N qual scope f cdv A outer s H E) (e₀ :: rest) t) (hd : (x == ("__debug__" : Str)) = false := by decide)
    (he : starEach (e₀ :: rest) (envOfC qual scope s.heap.objs.size f cdv) = (false, eval e₀ (envOfC qual scope s.heap.objs.size f cdv)) :: starEach rest (envOfC qual scope s.heap.objs.size f cdv) := by rfl)
    (hplain : (backTo cpos (starEach rest (envOfC qual scope s.heap.objs.size f cdv))).any (·.1) = false := by rfl) :
    PS (cxOf (CXO P w) P w K mg base N qual scope f cdv A outer s H E) (.Raise (some (.Call (.Name x np) (e₀ :: rest) [] cpos)) none pos) (tRaise C t E) := by
  intro pins s0 σ H0 D I h
  obtain ⟨tl, Nn, nm, q', bs, hdct, sn, sub, ab, col, dd, k0, k1, k2, k3, k5, mN, hC, hN, hni, T⟩ := (own_cls I.mod.kin b q).obj
  refine wpAny_Raise_call_subT (C := C) (nm := nm) (q := q') (N := Nn) (bs := bs) (bm := tl) (hdct := hdct) (sn := sn) (sub := sub) (ab := ab) (col := col) (dd := dd) (k0 := k0) (k1 := k1) (k2 := k2) (k3 := k3) (k5 := k5)
    FB (mN := mN) (T.hasType FB.hasBase) (I.ok.hd rfl) (by show (backTo cpos (starEach (e₀ :: rest) (envOfC qual scope s.heap.objs.size f cdv))).any _ = false; rw [he]; show (false || (backTo cpos (starEach rest (envOfC qual scope s.heap.objs.size f cdv))).any (·.1)) = false; rw [hplain]; rfl) hni (ld_glob I hx b ⟨rfl, ?_⟩ hd)
  have hA := ha cpos pins s0 σ H0 _ I h
  have he' : starEach (e₀ :: rest) (cxOf (CXO P w) P w K mg base N qual scope f cdv A outer s H E).env = (false, eval e₀ (cxOf (CXO P w) P w K mg base N qual scope f cdv A outer s H E).env) :: starEach rest (cxOf (CXO P w) P w K mg base N qual scope f cdv A outer s H E).env := he
  rw [he'] at hA ⊢
  refine Calls.evalArgs_plain (wpAny_mono hA (fun us s2 ⟨vs, H2, I2, rv, hz, hE⟩ => ⟨rfl, by rw [← rv.length]; exact hz, I2.bk _ _ hC, hN.keeps I2.bk, T.keeps I2.bk, fun h' e hx' => ?_⟩) fun _ _ y => y)
  have hfr : (A.deeper (envOfC qual scope s.heap.objs.size f cdv)).frames = some (envOfC qual scope s.heap.objs.size f cdv :: outer) := I2.ok.frames
  have hin : ∀ env ∈ (envOfC qual scope s.heap.objs.size f cdv :: outer), ∀ b, env.frame = some b → b ∈ frs (envOfC qual scope s.heap.objs.size f cdv :: outer) := fun env he b hb => List.mem_filterMap.mpr ⟨env, he, hb⟩
  have noH : ∀ b, s2.heap.get? b = none → H2 b = none := fun b e => by
    cases z : H2 b with
    | none => rfl
    | some u => obtain ⟨o, eo⟩ := (I2.hok b u z).there; rw [e] at eo; cases eo
  show wpAny _ _ (leaving _ _) _ _ _
  refine wpAny_leaves_madeW (base := PySem.W.hideAll s2.heap (frs (envOfC qual scope s.heap.objs.size f cdv :: outer))) (h := s2.heap) hfr rfl (fun b o q => PySem.W.of_hideAll _ q) (PySem.W.funFrames_hide I2.stack hin) hx' fun h'' t x1 x2 x3 x4 => ⟨e, .ref C, H2, rfl, ?_, hE⟩
  refine fly_out (s2 := { s2 with heap := h' }) I2 rfl I2.bare (Un.kept hx'.keeps) (I2.hok.kept hx'.keeps) (noH e hx'.new) (fun b o eb hh hb => ?_) x1 fun b hb o eb => x4 b o eb ?_
  · have key : ∀ o', s2.heap.get? b = some o' → (PySem.W.hideAll s2.heap (frs (envOfC qual scope s.heap.objs.size f cdv :: outer))).get? b = some o := fun o' e' => by
      have e2 := hx'.keeps b o' e'
      have e3 : h'.get? b = some o := eb
      rw [e2] at e3; cases e3
      exact PySem.W.hideAll_get _ e' hb
    rcases hh with ⟨o', e'⟩ | ⟨u, hu⟩
    · exact key o' e'
    · obtain ⟨o', e'⟩ := (I2.hok b u hu).there
      exact key o' e'
  · obtain ⟨_, o', e', d⟩ := I2.stack.mem (show b ∈ (envOfC qual scope s.heap.objs.size f cdv :: outer).filterMap (·.frame) from List.mem_cons_of_mem _ hb)
    have e2 := hx'.keeps b o' e'
    have e3 : h'.get? b = some o := eb
    rw [e2] at e3; cases e3
    exact d
end

/-! ### calls that may raise, caught here -/
def XPe (X : Cx) (pins : List (Addr × Obj)) (σ : St) (R : XK) (e : Value) (s' : Shared) : Prop := ∃ a cls H1 s1 H', e = .ref a ∧ Inv X pins σ H1 s1 ∧ Fly X.prog X.w X.stack H1 s1 H' a cls s' ∧ R cls none H'
abbrev TX := St → Hp → VK → XK → Prop
def PEX (X : Cx) (e : Expr) (tx : TX) : Prop := ∀ (pins : List (Addr × Obj)) (s : Shared) (σ : St) (H : Hp) (Q : VK) (R : XK), Inv X pins σ H s → tx σ H Q R → wpAny (model X.prog X.w) X.A (eval e X.env) (EP X pins σ Q) (XPe X pins σ R) s
def tCallX (sp : Sp) (dvs : List V) (t : TA) : TX := fun σ H Q R => t σ H fun vs H1 => sp (vs ++ dvs) H1 Q R
def tMethX (C : Addr) (m : Str) (sp : Sp) (dvs : List V) (ta : TE) (t : TA) : TX := fun σ H Q R => ta σ H fun x H1 => ∃ a dx fs, x = .ref a ∧ H1 a = some (.ins C dx fs) ∧ fs.lookup m = none ∧ t σ H1 fun vs H2 => sp (x :: (vs ++ dvs)) H2 Q R
def tMakeX (C : Addr) (sp : Sp) (dvs : List V) (t : TA) : TX := fun σ H Q R => t σ H fun vs H1 => ∀ x dx, H1 x = none → H1 dx = none → dx ≠ x →
  sp (.ref x :: (vs ++ dvs)) (upd (upd H1 dx (.own x)) x (.ins C dx [])) (fun v H2 => v = .non ∧ Q (.ref x) H2) R
section
variable {X : Cx} {k : Nat} {f C : Addr} {fd : FuncData} {ps : List Str} {sp : Sp} {dvs : List V} {ds : List Value} {x m : Str} {p pos apos : Pos} {e o : Expr} {es : List Expr} {ta : TE} {t : TA}
theorem run_fnX {pins : List (Addr × Obj)} {σ : St} {H : Hp} {s : Shared} {Q : VK} {R : XK} {us : List Value} {vs : List V} (F : FnOk X.prog X.w X.K X.mg X.base (CXO X.prog X.w) k f fd ps sp) (hr : Room k X.A) (hb : Binds X.K fd ps ds) (hd : Vals dvs ds)
    (I : Inv X pins σ H s) (r : Vals vs us) (h : sp (vs ++ dvs) H Q R) : wpAny (model X.prog X.w) X.A (call (.ref f) us) (EP X pins σ Q) (XPe X pins σ R) s := by
  have r2 : Vals (vs ++ dvs) (us ++ ds) := r.append hd
  have hl : (us ++ ds).length = ps.length := by rw [← r2.length]; exact F.len _ _ _ _ h
  refine wpAny_call (codeAny_mono (F.run X.A X.stack s H ⟨us, []⟩ (us ++ ds) (vs ++ dvs) Q R hr I.env0 (hb s us I.kIn hl) r2 h) fun r s' hq => ?_)
  cases r with
  | error e =>
    obtain ⟨a, cls, H', rfl, fl, hR⟩ := hq
    exact ⟨a, cls, H, s, H', rfl, I, fl, hR⟩
  | ok fl =>
    cases fl with
    | ret u => exact I.after hq
    | next => exact False.elim hq
    | brk => exact False.elim hq
    | cont => exact False.elim hq
theorem pex_call (F : FnOk X.prog X.w X.K X.mg X.base (CXO X.prog X.w) k f fd ps sp) (hr : Room k X.A) (hg : Gl X x) (hm : X.mg x = some (.ref f)) (hk : PySem.W.keepIn X.K (.ref f) = true) (hb : Binds X.K fd ps ds) (hd : Vals dvs ds)
    (ha : ∀ xe, PA (X.wish xe) (e :: es) t) (hdb : (x == ("__debug__" : Str)) = false := by decide) (he : starEach (e :: es) X.env = (false, eval e X.env) :: starEach es X.env := by rfl) (hpl : (backTo pos (starEach es X.env)).any (·.1) = false := by rfl) :
    PEX X (.Call (.Name x p) (e :: es) [] pos) (tCallX sp dvs t) := by
  intro pins s σ H Q R I h
  refine wpAny_Call_Name_kw (ld_glob I hg hm ?_ hdb)
  refine PySem.W.callWith_K (h₀ := X.base) I.ok.mod.kin hk (thn (ha (XPe X pins σ R) pos pins s σ H _ (I.wish _) h) fun us s1 ⟨vs, H1, I1, r, q⟩ => ⟨I1.unwish.kIn, ?_⟩) he hpl
  exact run_fnX F hr hb hd I1.unwish r q
theorem pex_meth {pl : Sem Bool} (he : ∀ xe, PE (X.wish xe) o ta) (c : Cls X.K C) (hm : Meth X.K C m f) (F : FnOk X.prog X.w X.K X.mg X.base (CXO X.prog X.w) k f fd ps sp) (hr : Room k X.A) (hb : Binds X.K fd ps ds) (hd : Vals dvs ds) (ha : ∀ xe, PA (X.wish xe) (e :: es) t)
    (hst : starEach (e :: es) X.env = (false, eval e X.env) :: starEach es X.env := by rfl) (hpl : (backTo pos (starEach es X.env)).any (·.1) = false := by rfl)
    (ht : eval (.Call (.Attribute o m apos) (e :: es) [] pos) X.env = (do
      let ov ← eval o X.env
      standAt apos.atName
      let (f, first) ← holding [ov] (getMethod ov m pl)
      callWith pos f first (backTo pos (starEach (e :: es) X.env)) (backToKw pos (keywordEach [] X.env))) := by rfl) :
    PEX X (.Call (.Attribute o m apos) (e :: es) [] pos) (tMethX C m sp dvs ta t) := by
  intro pins s σ H Q R I h
  refine PySem.W.methodCall_KW (pl := pl) (thn (he (XPe X pins σ R) pins s σ H _ (I.wish _) h) fun u s1 ⟨x, H1, I1, rx, a, dx, fs, ex, ea, l, q⟩ => ?_) ht
  subst ex
  obtain rfl : u = Value.ref a := rx
  refine getmeth_ok I1.unwish ea c hm l ?_
  refine PySem.W.callWith_K (first := [.ref a]) (h₀ := X.base) I.ok.mod.kin hm.kp (thn (ha (XPe X pins σ R) pos pins s1 σ H1 _ I1 q) fun us s2 ⟨vs, H2, I2, r, q2⟩ => ⟨I2.unwish.kIn, ?_⟩) hst hpl
  exact run_fnX (us := .ref a :: us) (vs := .ref a :: vs) F hr hb hd I2.unwish (.cons rfl r) q2
theorem run_makeX {pins : List (Addr × Obj)} {σ : St} {H : Hp} {s : Shared} {Q : VK} {R : XK} {us : List Value} {vs : List V} (M : Mk X.K C f) (F : FnOk X.prog X.w X.K X.mg X.base (CXO X.prog X.w) k f fd ps sp) (hr : Room (k + 1) X.A) (hb : Binds X.K fd ps ds) (hd : Vals dvs ds)
    (I : Inv X pins σ H s) (r : Vals vs us)
    (h : ∀ x dx, H x = none → H dx = none → dx ≠ x → sp (.ref x :: (vs ++ dvs)) (upd (upd H dx (.own x)) x (.ins C dx [])) (fun v H2 => v = .non ∧ Q (.ref x) H2) R) :
    wpAny (model X.prog X.w) X.A (call (.ref C) us) (EP X pins σ Q) (XPe X pins σ R) s := by
  have hq := h (s.heap.objs.size + 1) s.heap.objs.size (I.hok.fresh (Nat.le_succ _)) (I.hok.fresh (Nat.le_refl _)) (Nat.ne_of_lt (Nat.lt_succ_self _))
  have I2 := Inv.made (C := C) I
  have r2 : Vals (V.ref (s.heap.objs.size + 1) :: (vs ++ dvs)) (Value.ref (s.heap.objs.size + 1) :: (us ++ ds)) := .cons rfl (r.append hd)
  have hl : (Value.ref (s.heap.objs.size + 1) :: us ++ ds).length = ps.length := by
    have e := r2.length
    rw [F.len _ _ _ _ hq] at e
    exact e.symm
  refine wpAny_call (make_map (f := f) I.kIn M.makes M.init (beq_iff_eq.mp M.fn) (codeAny_mono (F.run _ X.stack _ _ ⟨Value.ref (s.heap.objs.size + 1) :: us, []⟩ (Value.ref (s.heap.objs.size + 1) :: (us ++ ds)) _ _ R (hr.make C us [])
    (I2.env0.make C us []) (hb _ (Value.ref (s.heap.objs.size + 1) :: us) I2.kIn hl) r2 hq) fun r s' hq' => ?_))
  cases r with
  | error e =>
    obtain ⟨a, cls, H', rfl, fl, hR⟩ := hq'
    exact ⟨a, cls, _, _, H', rfl, I2, fl, hR⟩
  | ok fl =>
    cases fl with
    | ret u =>
      obtain ⟨v, H', I3, rv, ev, q3⟩ := I2.after hq'
      subst ev
      exact ⟨rv, ⟨V.ref (s.heap.objs.size + 1), H', I3, rfl, q3⟩⟩
    | next => exact False.elim hq'
    | brk => exact False.elim hq'
    | cont => exact False.elim hq'
theorem pex_make (M : Mk X.K C f) (F : FnOk X.prog X.w X.K X.mg X.base (CXO X.prog X.w) k f fd ps sp) (hr : Room (k + 1) X.A) (hg : Gl X x) (hm : X.mg x = some (.ref C)) (hb : Binds X.K fd ps ds) (hd : Vals dvs ds)
    (ha : ∀ xe, PA (X.wish xe) (e :: es) t) (hdb : (x == ("__debug__" : Str)) = false := by decide) (he : starEach (e :: es) X.env = (false, eval e X.env) :: starEach es X.env := by rfl) (hpl : (backTo pos (starEach es X.env)).any (·.1) = false := by rfl) :
    PEX X (.Call (.Name x p) (e :: es) [] pos) (tMakeX C sp dvs t) := by
  intro pins s σ H Q R I h
  refine wpAny_Call_Name_kw (ld_glob I hg hm ?_ hdb)
  refine PySem.W.callWith_K (h₀ := X.base) I.ok.mod.kin M.kp (thn (ha (XPe X pins σ R) pos pins s σ H _ (I.wish _) h) fun us s1 ⟨vs, H1, I1, r, q⟩ => ⟨I1.unwish.kIn, ?_⟩) he hpl
  exact run_makeX M F hr hb hd I1.unwish r q
/-- a name goes -/
theorem goes_ok {M : Model} {A : Around} {E : Value → Shared → Prop} {pins : List (Addr × Obj)} {σ : St} {H : Hp} {s : Shared} {i : Nat} {x : Str} {hpos : Pos} {Q : Unit → Shared → Prop} (I : Inv X pins σ H s) (hN : X.N.Nodup) (hi : X.N[i]? = some x) (hk : X.env.scope.names.lookup x = some .local)
    (h : ∀ s', Inv X pins (σ.set i none) H s' → Q () s') : wpAny M A (do bindName X.env x .none; unbindBehindTheSuite X.env x hpos) Q E s := by
  obtain ⟨m, hn, hl⟩ := id I.loc
  have hcls : (X.env.scope.kind == .class || (X.env.scope.kind == .module && X.env.locals != X.env.globals)) = false := by rw [I.ok.kind]; rfl
  have hiσ : i < σ.length := by rw [I.len]; exact (List.getElem?_eq_some_iff.mp hi).1
  have cne := I.cne
  refine wpAny_nameGoes_keeps hk hn hcls fun h' v hn' hs => h _ ?_
  obtain ⟨oL, _, _, hoL, _⟩ := id hn
  have tracked : HOk X.prog X.w H h' := fun b ob e => by
    refine (I.hok b ob e).stay (fun c w' hc q => (hs.2 c ?_).trans q) (fun _ q => q) fun _ _ q => q
    rintro rfl
    have hfree := I.free
    rcases hc with rfl | hc
    · rw [hfree] at e; cases e
    · rw [hfree] at hc; cases hc
  refine ⟨I.ok, I.os, I.bare, ⟨fun b o e n hb hx => ?_, fun b o e n hb hx => ?_, I.base.free, fun b o e hx => ?_, I.base.tups, I.base.frzs, I.base.tbls⟩, ⟨_, hn', fun j y v' e1 e2 e3 => ?_⟩, fun y c e => ?_, I.free, I.freeC, fun p hp => ?_, tracked, by simpa using I.len⟩
  · exact (hs.2 b (Nat.ne_of_lt (Nat.lt_of_lt_of_le (Heap.lt_size e) I.ok.above))).trans (I.base.keep b o e n hb hx)
  · obtain ⟨sl, e1⟩ := I.base.slot b o e n hb hx
    exact ⟨sl, (hs.2 b (Nat.ne_of_lt (Nat.lt_of_lt_of_le (Heap.lt_size e) I.ok.above))).trans e1⟩
  · obtain ⟨o', e1⟩ := I.base.there b o e hx
    exact ⟨o', (hs.2 b (Nat.ne_of_lt (Nat.lt_of_lt_of_le (Heap.lt_size e) I.ok.above))).trans e1⟩
  · by_cases hj : j = i
    · subst hj
      rw [List.getElem?_set_self hiσ] at e2
      cases e2
    · rw [List.getElem?_set_ne (Ne.symm hj)] at e2
      obtain ⟨u', r', q⟩ := hl j y v' e1 e2 e3
      refine ⟨u', r', ?_⟩
      rcases q with ⟨k, e⟩ | ⟨k, c, e, z⟩
      · refine .inl ⟨k, ?_⟩
        have : y ≠ x := fun e => hj (nodup_ix hN e1 (e ▸ hi))
        simp [this, e]
      · exact .inr ⟨k, c, e, z.sameBut hs (cne y c e)⟩
  · obtain ⟨w', z⟩ := I.cell y c e
    exact ⟨w', z.sameBut hs (cne y c e)⟩
  · obtain ⟨e, n, ne, nf, d⟩ := I.pin p hp
    exact ⟨(hs.2 p.1 ne).trans e, n, ne, nf, d⟩
end
end L2

set_option Elab.async false
set_option linter.all false
set_option maxRecDepth 100000
set_option maxHeartbeats 4000000
namespace L2
open PySem PySem.Spec PyProof.Rows
/-! ### try .. except C as n -/
/-- a caught exception -/
def excO (a : Addr) (cls : Value) : HO := .ext fun h => ∃ o vs, h.get? a = some o ∧ o.cls = cls ∧ o.data = .fields vs
section
variable {X : Cx} {pins : List (Addr × Obj)} {σ : St} {H1 H2 : Hp} {s1 s2 : Shared} {a : Addr} {cls a0 : Value} {B h' : Heap}
/-- the context of an except suite -/
abbrev Cx.catch (X : Cx) (a : Addr) : Cx := { X with A := X.A.mark (some (.ref a)), calm := false }
theorem Cx.Ok.catch {X : Cx} (ok : X.Ok) (a : Addr) : (X.catch a).Ok :=
  ⟨ok.mod, ok.kind, ok.glob, ok.blt, ok.above, ok.inj, ok.has, ok.cab, fun z => Bool.noConfusion (show false = true from z), ok.frames, ok.stk, ok.exf, ok.bs, ok.bsz, ok.noex, ok.exfs, ok.funs, ok.frf⟩
theorem Inv.catch {H : Hp} {s : Shared} (I : Inv X pins σ H s) (a : Addr) : Inv (X.catch a) pins σ H s := ⟨I.ok.catch a, I.os, I.bare, I.base, I.loc, I.cell, I.free, I.freeC, I.pin, I.hok, I.len⟩
theorem Inv.uncatch {H : Hp} {s : Shared} (ok : X.Ok) (I : Inv ((X.catch a).nox) pins σ H s) : Inv X pins σ H s := ⟨ok, I.os, I.bare, I.base, I.loc, I.cell, I.free, I.freeC, I.pin, I.hok, I.len⟩
/-- a flying exception has come to the frame that looks -/
theorem fly_in (I : Inv X pins σ H1 s1) (fl : Fly X.prog X.w X.stack H1 s1 H2 a cls s2) (hB : ∀ b o, s2.heap.get? b = some o → ((∃ q, s1.heap.get? b = some q) ∨ ∃ u, H2 b = some u) → b ∉ frs X.stack → B.get? b = some o)
    (hfl : Heap.FlyingW B X.stack a cls a0 h') (hsl : ∀ b ∈ frs X.stack, ∀ o, s2.heap.get? b = some o → ∃ sl, h'.get? b = some { o with slots := sl }) :
    Inv X pins σ H2 { s2 with heap := h' } ∧ Inv X pins σ (upd H2 a (excO a cls)) { s2 with heap := h' } := by
  have un := fl.un
  have hst : ∀ b ∈ frs X.stack, H2 b = none := fun b hb => by
    obtain ⟨_, o, e, _⟩ := I.stack.mem (show b ∈ X.stack.filterMap (·.frame) from hb)
    exact un.free b o e (I.stkFree b hb) (by simp)
  have inB : ∀ b o, s1.heap.get? b = some o → b ∉ frs X.stack → ∀ o2, s2.heap.get? b = some o2 → h'.get? b = some o2 := fun b o e hb o2 e2 => hfl.1 b o2 (hB b o2 e2 (.inl ⟨o, e⟩) hb)
  have trB : ∀ b u, H2 b = some u → ∀ o2, s2.heap.get? b = some o2 → h'.get? b = some o2 := fun b u e o2 e2 => hfl.1 b o2 (hB b o2 e2 (.inr ⟨u, e⟩) fun z => by rw [hst b z] at e; cases e)
  have un' : Un (frs X.stack) [] H1 H2 s1.heap h' := by
    refine ⟨fun b o e n hb hx => inB b o e hb o (un.keep b o e n hb hx), fun b o e n hb hx => ?_, un.free, fun b o e hx => ?_, un.tups, un.frzs, un.tbls⟩
    · obtain ⟨sl2, e2⟩ := un.any e n hx
      obtain ⟨sl3, e3⟩ := hsl b hb _ e2
      exact ⟨sl3, e3⟩
    · obtain ⟨o2, e2⟩ := un.there b o e hx
      by_cases hb : b ∈ frs X.stack
      · obtain ⟨sl, e3⟩ := hsl b hb _ e2
        exact ⟨_, e3⟩
      · exact ⟨o2, inB b o e hb o2 e2⟩
  have hok' : HOk X.prog X.w H2 h' := fun b u e => by
    refine (fl.hok b u e).stay (fun c v hc q => ?_) (fun _ q => q) fun _ _ q => q
    rcases hc with z | z
    · subst z; exact trB c u e v q
    · exact trB c _ z v q
  obtain ⟨oe, vs, he, hc, hd, _⟩ := hfl.first
  -- the exception is new
  have anew : s1.heap.get? a = none := by
    cases q : s1.heap.get? a with
    | none => rfl
    | some o =>
      exfalso
      by_cases hb : a ∈ frs X.stack
      · obtain ⟨_, o', e', d⟩ := hfl.2.2.1.mem (show a ∈ X.stack.filterMap (·.frame) from hb)
        rw [he] at e'; cases e'
        exact d vs hd
      · obtain ⟨o2, e2⟩ := un.there a o q (by simp)
        have := hB a o2 e2 (.inl ⟨o, q⟩) hb
        rw [hfl.2.1] at this; cases this
  have aH1 : H1 a = none := by
    cases z : H1 a with
    | none => rfl
    | some u => obtain ⟨o, eo⟩ := (I.hok a u z).there; rw [anew] at eo; cases eo
  refine ⟨I.call' (ch := []) (s' := { s2 with heap := h' }) fl.os un' hok' fl.bare (fun b z => nomatch z), I.call' (ch := []) (s' := { s2 with heap := h' }) fl.os ?_ ?_ fl.bare (fun b z => nomatch z)⟩
  · have na : ∀ b o, s1.heap.get? b = some o → b ≠ a := fun b o e z => by rw [z, anew] at e; cases e
    refine ⟨un'.keep, un'.slot, fun b o e n hx => by rw [upd_ne (na b o e)]; exact un'.free b o e n hx, un'.there, fun b xs e => ?_, fun b o u e => ?_, fun b ps e => ?_⟩
    · rw [upd_ne (ne_of_none e aH1)]; exact un.tups b xs e
    · rw [upd_ne (ne_of_none e aH1)]; exact un.frzs b o u e
    · rw [upd_ne (ne_of_none e aH1)]; exact un.tbls b ps e
  · intro b u e
    by_cases hb : b = a
    · subst hb
      rw [upd_same] at e; cases e
      refine ⟨⟨oe, vs, he, hc, hd⟩, ⟨oe, he⟩, fun g1 g2 ⟨o, vs', q1, q2, q3⟩ k => ⟨o, vs', k o q1, q2, q3⟩⟩
    · rw [upd_ne hb] at e
      refine (hok' b u e).stay (fun c v _ q => q) (fun c q => by rw [upd_ne (ne_of_none q fl.an)]; exact q) fun c xs q => by rw [upd_ne (ne_of_none q fl.an)]; exact q
end

def tTry (K : PySem.W.Frag) (c : Value) (i : Nat) (tx : TX) (ts : TS) : TS := fun D σ H => tx σ H (fun _ H1 => D.nx σ H1) fun cls _ H1 => PySem.W.exmOne K cls c = some true ∧ ∀ a, H1 a = none →
  ts { nx := fun σ2 H2 => D.nx (σ2.set i none) H2, rt := D.rt, bk := fun σ2 H2 => D.bk (σ2.set i none) H2, ct := fun σ2 H2 => D.ct (σ2.set i none) H2 } (σ.set i (some (.ref a))) (upd H1 a (excO a cls))
section
variable {X : Cx} {e : Expr} {tx : TX} {ts : TS} {x n : Str} {c : Value} {i : Nat} {b₀ : Stmt} {suite : List Stmt} {pos pos' np hpos : Pos}
theorem ps_try (hst : X.stack = X.env :: X.outer) (hf : X.env.frame = some X.env.locals) (he : PEX X e tx) (hx : Gl X x) (hm : X.mg x = some c) (hN : X.N.Nodup) (hi : X.N[i]? = some n) (hn : X.env.scope.names.lookup n = some .local)
    (hs : ∀ a, PSs ((X.catch a).nox) (b₀ :: suite) ts) (hd : (x == ("__debug__" : Str)) = false := by decide) (hsw : swapsWith e none pos'.line X.env = pure false := by rfl) :
    PS X (.Try [.Expr e pos'] [.ExceptHandler (some (.Name x np)) (some n) (b₀ :: suite) hpos] [] [] pos) (tTry X.K c i tx ts) := by
  intro pins s σ H D I h
  refine wpAny_Try_except (wpAny_execs_cons (wpAny_Expr_any (wpAny_mono (he pins s σ H _ _ I h) (fun v s1 ⟨y, H1, I1, r1, q1⟩ => wpAny_execs_nil (wpAny_execs_nil ⟨σ, H1, I1, q1⟩)) fun ev s2 hx2 => ?_) I.quiet hsw))
  obtain ⟨a, cls, H1, s1, H2, rfl, I1, fl, hex, hR⟩ := hx2
  obtain ⟨B, a0, hfl, hB⟩ := fl.fly
  have hfr : X.A.frames = some (X.env :: X.outer) := by rw [I.ok.frames, hst]
  have hfl0 : Heap.FlyingW B (X.env :: X.outer) a cls a0 s2.heap := hst ▸ hfl
  -- the frames of the stack, up to slots
  have fs0 : ∀ {g : Heap}, s2.heap.UpToSlots g → ∀ b ∈ frs X.stack, ∀ o, s2.heap.get? b = some o → ∃ sl, g.get? b = some { o with slots := sl } := fun {g} u b hb o e => u b o e (by
    obtain ⟨_, o', e', d⟩ := hfl.2.2.1.mem (show b ∈ X.stack.filterMap (·.frame) from hb)
    rw [e] at e'; cases e'
    exact d)
  refine wpAny_looks_onW hfr hf hfl0 fun h4 held4 u4 => ?_
  refine wpAny_landsW held4 fun h5 fly5 u5 => ?_
  have fly5' : Heap.FlyingW B X.stack a cls a0 h5 := hst ▸ fly5
  have I5 := (fly_in I1 fl hB fly5' (fs0 (u4.trans u5))).1
  have J5 := I5.catch a
  refine wpAny_handleBy_cons (codeAny_handlers_test ?_) (by intro q; cases q)
  refine ld_glob (X := X.catch a) J5 hx hm ?_ hd
  have LT : PySem.W.Looks (model X.prog X.w) h5 (typeOf (.ref a)) cls := by
    obtain ⟨ob, hob, hc⟩ := fly5.there
    subst hc
    exact (PySem.W.Looks.ld hob).andThen .now
  refine PySem.W.Looks.here (s := { s2 with heap := h5 }) (PySem.W.exm_one I5.kIn LT hex) ?_
  show codeAny _ _ _ _ _
  refine codeAny_handlers_suite_as ?_
  refine lands_againW fly5' fun h6 fly6 u6 => ?_
  have I6 := (fly_in I1 fl hB fly6 (fs0 ((u4.trans u5).trans u6))).2
  have J6 := I6.catch a
  refine store_ok (X := X.catch a) J6 hN hi (.inl hn) (v := .ref a) rfl (fun s7 J7 => ?_) (.inr hn)
  have J7' : Inv ((X.catch a).nox) pins (σ.set i (some (.ref a))) (upd H2 a (excO a cls)) s7 := J7.wish _
  refine wpAny_mono (hs a pins s7 _ _ _ J7' (hR a fl.an)) (fun f s8 q8 => ?_) fun _ _ z => False.elim z
  cases f with
  | next =>
    obtain ⟨σ8, H8, J8, q8⟩ := q8
    exact goes_ok (Inv.uncatch I.ok J8) hN hi hn fun s9 I9 => ⟨_, H8, I9, q8⟩
  | brk =>
    obtain ⟨σ8, H8, J8, q8⟩ := q8
    exact goes_ok (Inv.uncatch I.ok J8) hN hi hn fun s9 I9 => ⟨_, H8, I9, q8⟩
  | cont =>
    obtain ⟨σ8, H8, J8, q8⟩ := q8
    exact goes_ok (Inv.uncatch I.ok J8) hN hi hn fun s9 I9 => ⟨_, H8, I9, q8⟩
  | ret u =>
    obtain ⟨v, σ8, H8, J8, r8, q8⟩ := q8
    exact goes_ok (Inv.uncatch I.ok J8) hN hi hn fun s9 I9 => ⟨v, _, H8, I9, r8, q8⟩
end
end L2

set_option Elab.async false
set_option linter.all false
set_option maxRecDepth 100000
set_option maxHeartbeats 4000000
namespace L2
open PySem PySem.Spec PyProof.Rows
/-! ### isinstance of a caught exception -/
section
variable {prog : Program} {w : World} {A : Around} {E : Value → Shared → Prop} {h : Heap} {g : Array GenState} {d : Drawn} {t : Nat} {os : OsState} {K : PySem.W.Frag} {a C : Addr} {o : Obj} {vs : Array Value}
theorem owner_class : (".".intercalate ("object.__class__".cutAt '.').dropLast) = "object" := by decide +kernel
theorem exc_class_get {R : Result → Shared → Prop} (X : K.In h) (hx : h.get? a = some o) (hc : o.cls = .ref C) (m1 : PySem.W.mroIn K C (.type "object") = some true) (hq : R (.ok (.ret (.ref C))) ⟨h, g, d, t, os⟩) :
    codeAny (model prog w) A (.call (.builtin "getset_descriptor.__get__") ⟨[.builtin "object.__class__", .ref a, .ref C], []⟩) R ⟨h, g, d, t, os⟩ := by
  have hT5 : (⟨h, g, d, t, os⟩ : Shared).TypeIs (.builtin "object.__class__") "getset_descriptor" := F.typeOf_object_class
  have L1 := PySem.W.looks_mroIn (M := model prog w) X m1
  rw [← owner_class] at L1
  refine codeAny_call_builtin F.slot_gs_get.plain F.entry_gs_get (F.slot_gs_get.check _ _ _ _ _ _ _ _ hT5 (F.args_gs_get _ _ _) ?_)
  repeat (any_goals (first | assumption | (with_reducible refine wpAny_loadPart_at hx ?_; rw [hc]) | with_reducible refine L1.at ?_ | wp_step))
  refine ⟨Code.quiet_builtin _ (by decide +kernel), codeAny_builtin F.entry_object_class ?_⟩
  repeat (any_goals (first | assumption | (with_reducible refine wpAny_loadPart_at hx ?_; rw [hc]) | wp_step))
theorem exc_class_entry {tk : Tok} {Q : PySem.Fin → Shared → Prop} (X : K.In h) (hx : h.get? a = some o) (hc : o.cls = .ref C) (m1 : PySem.W.mroIn K C (.type "object") = some true) (g3 : PySem.W.findIn K (.ref C) "__class__" = some (some (.builtin "object.__class__")))
    (hq : Q (.done (.ret (.ref C))) ⟨h, g, d, t, os⟩) : wpAny (model prog w) A (Builtin.«object.__getattribute__» ⟨[.ref a, .str "__class__" tk], []⟩) Q E ⟨h, g, d, t, os⟩ := by
  have hT5 : (⟨h, g, d, t, os⟩ : Shared).TypeIs (.builtin "object.__class__") "getset_descriptor" := F.typeOf_object_class
  have L3 := PySem.W.looks_findIn (M := model prog w) X g3
  have f5 := F.typeOf_object_class
  have f6 := F.slot_gs_get.lookup
  have f7 := F.slot_gs_set.lookup
  repeat (any_goals (first | assumption | (with_reducible refine wpAny_loadPart_at hx ?_; rw [hc]) | with_reducible refine L3.at ?_ | wp_step))
  refine exc_class_get X hx hc m1 ?_
  repeat (any_goals (first | assumption | wp_step))
theorem exc_check {M : Model} {nameV : Value} {Q : Unit → Shared → Prop} (X : K.In h) (hx : h.get? a = some o) (hc : o.cls = .ref C) (m2 : PySem.W.mroIn K C (.type "BaseException") = some true) (hq : Q () ⟨h, g, d, t, os⟩) :
    wpAny M A (checkBuiltinCall "BaseException.__getattribute__" ⟨[.ref a, nameV], []⟩) Q E ⟨h, g, d, t, os⟩ := by
  have hk : builtinKind "BaseException.__getattribute__" = some .slot := by decide +kernel
  have hsplit : splitId "BaseException.__getattribute__" = some ("BaseException", "__getattribute__") := by decide +kernel
  have L2 := PySem.W.looks_mroIn (M := M) X m2
  have ha := F.args_bexc_ga (.ref a) nameV
  simp only [checkBuiltinCall, hk, hsplit]
  refine wpAny_bind ?_
  · unfold isInstance
    repeat (first | (with_reducible refine wpAny_loadPart_at hx ?_; rw [hc]) | with_reducible refine L2.at ?_ | wp_step)
    exact hq
theorem exc_class_call {tk : Tok} {R : Result → Shared → Prop} (X : K.In h) (hx : h.get? a = some o) (hc : o.cls = .ref C) (m1 : PySem.W.mroIn K C (.type "object") = some true) (m2 : PySem.W.mroIn K C (.type "BaseException") = some true)
    (g3 : PySem.W.findIn K (.ref C) "__class__" = some (some (.builtin "object.__class__"))) (hq : R (.ok (.ret (.ref C))) ⟨h, g, d, t, os⟩) :
    codeAny (model prog w) A (.call (.builtin "BaseException.__getattribute__") ⟨[.ref a, .str "__class__" tk], []⟩) R ⟨h, g, d, t, os⟩ :=
  codeAny_call_builtin F.attr_ValueError.ga.plain F.entry_bexc_ga (exc_check X hx hc m2 (exc_class_entry X hx hc m1 g3 hq))
theorem exc_class_by {tk : Tok} {Q : Value → Shared → Prop} (X : K.In h) (hx : h.get? a = some o) (hc : o.cls = .ref C) (m1 : PySem.W.mroIn K C (.type "object") = some true) (m2 : PySem.W.mroIn K C (.type "BaseException") = some true)
    (g1 : PySem.W.findIn K (.ref C) "__getattribute__" = some (some (.builtin "BaseException.__getattribute__"))) (g2 : PySem.W.findIn K (.ref C) "__getattr__" = some none) (g3 : PySem.W.findIn K (.ref C) "__class__" = some (some (.builtin "object.__class__")))
    (hq : Q (.ref C) ⟨h, g, d, t, os⟩) : wpAny (model prog w) A (getAttrBy (.ref a) (.str "__class__" tk) false) Q E ⟨h, g, d, t, os⟩ := by
  have f3 := F.attr_ValueError.ga.bind (.ref a)
  have L1 := PySem.W.looks_findIn (M := model prog w) X g1
  have L2 := PySem.W.looks_findIn (M := model prog w) X g2
  have hx2 : (Value.builtin "BaseException.__getattribute__" == Value.builtin "object.__getattribute__") = false := by decide +kernel
  have hx1 : (onTheHeap (Value.ref C) && Value.builtin "BaseException.__getattribute__" == Value.builtin "object.__getattribute__") = false := by rw [hx2]; rfl
  repeat (any_goals (first | assumption | (with_reducible refine wpAny_loadPart_at hx ?_; rw [hc]) | with_reducible refine L1.at ?_ | with_reducible refine L2.at ?_ | wp_step))
  refine exc_class_call X hx hc m1 m2 g3 ?_
  repeat (any_goals (first | assumption | wp_step))
end
end L2
namespace L2
open PySem PySem.Spec PyProof.Rows
/-- an own error class, as the top has made it -/
structure ExcCl (K : PySem.W.Frag) (C : Addr) : Prop where
  cl : (PySem.W.clsIn K C).isSome = true
  m1 : PySem.W.mroIn K C (.type "object") = some true
  m2 : PySem.W.mroIn K C (.type "BaseException") = some true
  g1 : PySem.W.findIn K (.ref C) "__getattribute__" = some (some (.builtin "BaseException.__getattribute__"))
  g2 : PySem.W.findIn K (.ref C) "__getattr__" = some none
  g3 : PySem.W.findIn K (.ref C) "__class__" = some (some (.builtin "object.__class__"))
theorem kitx_exc {K : PySem.W.Frag} {a C : Addr} (x : ExcCl K C) : PySem.W.KitX K (.ref a) (.ref C) (fun h => ∃ o vs, h.get? a = some o ∧ o.cls = .ref C ∧ o.data = .fields vs) where
  ty := fun M h _ ⟨o, vs, ho, hc, _⟩ => by
    have L := (PySem.W.Looks.ld (M := M) (part := none) ho)
    have e : PySem.W.Looks M h (typeOf (.ref a)) o.cls := (PySem.W.Looks.ld ho).andThen .now
    rw [hc] at e
    exact e
  it := fun _ _ X _ => by
    obtain ⟨cdD, hcD⟩ := Option.isSome_iff_exists.mp x.cl
    unfold PySem.W.clsIn at hcD
    split at hcD
    · rename_i c' d' cd' sl' ho
      intro A' Q' E' s' k q
      unfold isType loadHead
      exact wpAny_bind (wpAny_loadPart (k _ _ (X _ _ ho)) (wpAny_pure q))
    · cases hcD
  ne := fun h tp dd its n sl X htp => by
    obtain ⟨cdD, hcD⟩ := Option.isSome_iff_exists.mp x.cl
    refine Bool.eq_false_iff.mpr fun q => ?_
    have e : C = tp := Value.ref.inj (beq_iff_eq.mp q)
    subst e
    unfold PySem.W.clsIn at hcD
    split at hcD
    · rename_i c' d' cd' sl' ho
      have z := (X _ _ ho).symm.trans htp
      cases z
    · cases hcD
  ca := fun {prog w A E Q s} X ⟨o, vs, ho, hc, hd⟩ k => by
    obtain ⟨h, g, d, t, os⟩ := s
    unfold getAttr? getAttrBy?
    refine wpAny_bind (wpAny_mkText (wpAny_bind (wpAny_attempt ?_)))
    exact exc_class_by X ho hc x.m1 x.m2 x.g1 x.g2 x.g3 (wpAny_pure k)
section
variable {X : Cx}
/-- isinstance(e, C) of a caught exception -/
theorem call_isinstE : CallR X (.builtin "isinstance") (fun xs H Q => ∃ (a C : Addr) (c : V) (cv : Value) (b : Bool), xs = [.ref a, c] ∧ (∀ u, RelV c u → u = cv) ∧ H a = some (excO a (.ref C)) ∧ ExcCl X.K C ∧ PySem.W.kitOne X.K (.ref C) cv = some b ∧ Q (.bl b) H) := by
  intro pins s σ H xs us Q I r h
  obtain ⟨a, C, c, cv, b, rfl, hc, hH, x, e, q⟩ := h
  obtain ⟨u, v, rfl, ru, rv⟩ := vals2 r
  cases ru
  cases hc v rv
  obtain ⟨p, _, _⟩ := I.hok a _ hH
  exact PySem.W.kia_one (kitx_exc x) I.kIn p e (fun z => nomatch z) fun tk => ⟨.bl b, H, I.tok _, rfl, q⟩
/-- isinstance(e, (C, ..)) -/
theorem call_isinstT : CallR X (.builtin "isinstance") (fun xs H Q => ∃ (a C tp : Addr) (cs : List V) (cvs : List Value) (b : Bool), xs = [.ref a, .ref tp] ∧ H tp = some (.tup cs) ∧ (∀ us, Vals cs us → us = cvs) ∧ H a = some (excO a (.ref C)) ∧ ExcCl X.K C ∧ PySem.W.kitAny X.K (.ref C) cvs = some b ∧ Q (.bl b) H) := by
  intro pins s σ H xs us Q I r h
  obtain ⟨a, C, tp, cs, cvs, b, rfl, htp, hcs, hH, x, e, q⟩ := h
  obtain ⟨u, v, rfl, ru, rv⟩ := vals2 r
  cases ru
  cases rv
  obtain ⟨p, _, _⟩ := I.hok a _ hH
  obtain ⟨z, its, rt, ⟨o, ho, hc, n, hd⟩⟩ := I.hok tp _ htp
  cases hcs its rt
  obtain ⟨c0, d0, dt0, sl0⟩ := o
  cases hc
  cases hd
  exact PySem.W.kia_tup (kitx_exc x) I.kIn p ho e (fun z => nomatch z) fun tk => ⟨.bl b, H, I.tok _, rfl, q⟩
end
end L2

set_option Elab.async false
set_option linter.all false
set_option maxRecDepth 100000
set_option maxHeartbeats 4000000
namespace L2
open PySem PySem.Spec PyProof.Rows
/-! ### texts, each once -/
def addS (σ : List Str) (z : Str) : List Str := if z ∈ σ then σ else z :: σ
def dist (zs : List Str) : List Str := zs.foldl addS []
theorem mem_addS {σ : List Str} {z k : Str} : k ∈ addS σ z ↔ k ∈ σ ∨ k = z := by
  unfold addS
  split
  · exact ⟨.inl, fun h => h.elim id fun e => by rw [e]; assumption⟩
  · rw [List.mem_cons]; exact or_comm
theorem len_addS (σ : List Str) (z : Str) : (addS σ z).length = if z ∈ σ then σ.length else σ.length + 1 := by
  unfold addS; split <;> simp
theorem dist_snoc (zs : List Str) (z : Str) : dist (zs ++ [z]) = addS (dist zs) z := by simp [dist, List.foldl_append]
theorem fold_le : ∀ (zs σ : List Str), (zs.foldl addS σ).length ≤ σ.length + zs.length
  | [], σ => by simp
  | z :: zs, σ => by
    have h := fold_le zs (addS σ z)
    rw [len_addS] at h
    simp only [List.foldl_cons, List.length_cons]
    split at h <;> omega
theorem dist_le (zs : List Str) : (dist zs).length ≤ zs.length := by
  have h := fold_le zs []
  rw [List.length_nil, Nat.zero_add] at h
  exact h
theorem fold_nd : ∀ (zs σ : List Str), zs.Nodup → (∀ z ∈ zs, z ∉ σ) → (zs.foldl addS σ).length = σ.length + zs.length
  | [], σ, _, _ => by simp
  | z :: zs, σ, nd, h => by
    rw [List.nodup_cons] at nd
    simp only [List.foldl_cons, List.length_cons]
    rw [fold_nd zs (addS σ z) nd.2 fun y hy q => ?_, len_addS, if_neg (h z List.mem_cons_self)]
    · omega
    · rcases mem_addS.mp q with q | q
      · exact h y (List.mem_cons_of_mem _ hy) q
      · exact nd.1 (q ▸ hy)
theorem dist_nd {zs : List Str} (nd : zs.Nodup) : (dist zs).length = zs.length := by
  have h := fold_nd zs [] nd fun _ _ h => nomatch h
  rw [List.length_nil, Nat.zero_add] at h
  exact h
theorem strs_at : ∀ {its : List Value} {zs : List Str} {i : Nat} {v : Value}, StrsAre its zs → its[i]? = some v → ∃ z t, zs[i]? = some z ∧ v = .str z t := by
  intro its zs i v h
  induction h generalizing i with
  | nil => intro e; simp at e
  | cons z t _ ih =>
    intro e
    cases i with
    | zero => simp at e; exact ⟨z, t, rfl, e.symm⟩
    | succ i => exact ih (by simpa using e)
theorem strs_len : ∀ {its : List Value} {zs : List Str}, StrsAre its zs → its.length = zs.length := by
  intro its zs h
  induction h with
  | nil => rfl
  | cons z t _ ih => simp [ih]
theorem of_strs : ∀ {its : List Value} {zs : List Str}, StrsAre its zs → Vals (zs.map V.str) its := by
  intro its zs h
  induction h with
  | nil => exact .nil
  | cons z t _ ih => exact .cons ⟨t, rfl⟩ ih
/-! ### set(texts) -/
section
variable {prog : Program} {w : World} {A : Around} {I S : Addr} {fp wr : List Addr} {G : Array GenState → Array GenState → Prop} {P : Nat → Value → Prop} {St : Nat → Shared → Prop} {zs : List Str} {R : Result → Shared → Prop}
/-- the set of some texts -/
abbrev TxtSet (prog : Program) (w : World) (h : Heap) (S : Addr) (zs : List Str) : Prop := h.SetOf (strKind prog w) S (fun k => decide (k ∈ dist zs)) (dist zs).length
theorem TxtSet.keep {h h' : Heap} (x : TxtSet prog w h S zs) (k : ∀ o, h.get? S = some o → h'.get? S = some o) : TxtSet prog w h' S zs := by
  obtain ⟨o, es, ep, t, ho, r⟩ := x
  exact ⟨o, es, ep, t, k o ho, r⟩
theorem TxtSet.more {h : Heap} {z : Str} (x : h.SetOf (strKind prog w) S (fun k => decide (k ∈ dist zs) || decide (k = z)) (if decide (z ∈ dist zs) = true then (dist zs).length else (dist zs).length + 1)) : TxtSet prog w h S (zs ++ [z]) := by
  have e1 : (fun k => decide (k ∈ dist (zs ++ [z]))) = fun k => decide (k ∈ dist zs) || decide (k = z) := by
    funext k; rw [dist_snoc, Bool.eq_iff_iff]; simp [mem_addS]
  have e2 : (dist (zs ++ [z])).length = if decide (z ∈ dist zs) = true then (dist zs).length else (dist zs).length + 1 := by
    rw [dist_snoc, len_addS]; simp
  unfold TxtSet
  rw [e1, e2]; exact x
theorem texts_in (W : WalksS prog w A.in1 I fp wr G zs.length P St) (off : S ∉ fp) (hz : ∀ i v, P i v → ∃ z t, zs[i]? = some z ∧ v = .str z t) (small : zs.length + 1 < scanBound) :
    ∀ (left i : Nat) (s : Shared), i + left = zs.length → St i s → TxtSet prog w s.heap S (zs.take i) →
      (∀ s', Moved (S :: wr) G s s' → TxtSet prog w s'.heap S zs → R (.ok (.ret .none)) s') → codeAny (model prog w) A (.builtin "set.update.loop" ⟨[.ref S, .ref I], []⟩) R s
  | 0, i, s, hi, st, x, k => by
    have e : zs.take i = zs := List.take_of_length_le (by omega)
    rw [show i = zs.length by omega] at st
    refine codeAny_builtin F.entry_set_update_loop ?_
    rw [Around.under_plainId F.plain_set_update_loop _]
    apply wpAny_bind
    refine W.done s _ _ st fun s' m => ?_
    exact wpAny_pure (k s' (m.mono fun b hb => List.mem_cons_of_mem _ hb) (by rw [e] at x; exact x.keep fun o ho => m.heap S o (fun hs => off (W.sub _ hs)) ho))
  | left + 1, i, s, hi, st, x, k => by
    refine codeAny_builtin F.entry_set_update_loop ?_
    rw [Around.under_plainId F.plain_set_update_loop _]
    apply wpAny_bind
    refine W.item i s _ _ (by omega) st fun v s1 p st1 m => ?_
    obtain ⟨z, t, ez, rfl⟩ := hz i v p
    have x1 := x.keep fun o ho => m.heap S o (fun hs => off (W.sub _ hs)) ho
    have et : zs.take (i + 1) = zs.take i ++ [z] := by rw [List.take_add_one, ez]; rfl
    have yes : (strKind prog w).is z (.str z t) = true := by show Value.isStrOf z (.str z t) = true; simp [Value.isStrOf]
    show wpAny _ A.in1 (holding [Value.str z t] (setAdd S (.str z t)) >>= _) _ _ s1
    apply wpAny_bind; apply wpAny_holding
    show wpAny _ A.in1 (holding _ _) _ _ _
    apply wpAny_holding; apply wpAny_bind
    refine (strKind prog w).pyHash yes ?_
    have few := dist_le (zs.take i)
    rw [List.length_take] at few
    refine wpAny_setAddHashed_of (knd := strKind prog w) (s := { s1 with toks := s1.toks + 1 }) yes rfl x1 (by omega) fun h2 sb x2 => ?_
    refine wpAny_pure ⟨plainId_quiet F.plain_set_update_loop _, texts_in W off hz small left (i + 1) _ (by omega) ?_ (by rw [et]; exact TxtSet.more x2) fun s3 m3 x3 => ?_⟩
    · exact W.frame _ s1 _ _ st1 (Nat.le_succ _) fun b hb o e => (sb.2 b fun z' => off (z' ▸ hb)).trans e
    · refine k s3 (Moved.trans W.gtrans ((m.mono fun b hb => List.mem_cons_of_mem _ hb).then_heap (Nat.le_succ _) fun b o hb e => ?_) m3) x3
      exact (sb.2 b fun z' => hb (by rw [z']; exact List.mem_cons_self)).trans e
end
section
variable {prog : Program} {w : World} {A : Around} {E : Value → Shared → Prop} {s : Shared}
/-- T(..) of a built-in type: its __new__, then its __init__ of what that made -/
theorem made_by {T newId initId : String} {args : List Value} {Q : Value → Shared → Prop} (ft : TypeCalled T newId initId) (hc : checkTypeCall T ⟨args, []⟩ = pure ())
    (h : codeAny (model prog w) A.in1 (.call (.builtin newId) ⟨.type T :: args, []⟩) (wants (fun x t => t.TypeIs x T ∧ codeAny (model prog w) A.in1 (.call (.builtin initId) ⟨x :: args, []⟩) (wants (fun r t' => r = .none ∧ Q x t') E) t) E) s) :
    wpAny (model prog w) A (call (.type T) args) Q E s := by
  have q1 := ft.made
  have q2 := ft.sub
  have q3 := ft.notType
  have q4 := ft.canCreate
  have q5 := ft.init.lookup
  obtain ⟨_, _, q6⟩ := ft.mro
  apply wpAny_call; apply codeAny_of_tree
  show wpAny _ _ (callAny (.type T) _) _ _ _
  apply wpAny_pure
  refine ⟨Code.quiet_builtin _ (by decide +kernel), codeAny_builtin PySem.F.entry_type_call ?_⟩
  rw [Around.under_plain (weight_type_call_type T args []) rfl]
  repeat (any_goals (first | wp_step | assumption))
  apply codeAny_mono h
  rintro (e | f) t k
  · exact k
  cases f <;> first | exact k.elim | skip
  rename_i x
  have q7 := ft.init.bind x
  obtain ⟨ty, k⟩ := k
  repeat (any_goals (first | wp_step | assumption))
  apply codeAny_mono k
  rintro (e | f) t' k'
  · exact k'
  cases f <;> first | exact k'.elim | skip
  obtain ⟨z, k'⟩ := k'
  cases z
  repeat (any_goals (first | wp_step | assumption))
theorem set_texts {l : Addr} {its : List Value} {zs : List Str} {Q : Value → Shared → Prop} (hh : A.handled = none) (hl : s.heap.IsList l its.toArray) (hz : StrsAre its zs) (small : zs.length + 1 < scanBound)
    (h : ∀ (h' : Heap) (tk : Nat), TxtSet prog w h' s.heap.objs.size zs → (∀ b o, s.heap.get? b = some o → h'.get? b = some o) → Q (.ref s.heap.objs.size) { s with heap := h', toks := tk }) :
    wpAny (model prog w) A (call (.type "set") [.ref l]) Q E s := by
  refine made_by PySem.F.called_set (PySem.F.typeCall_set_1 _) (code_set_new_1 (.ref l) fun led => ?_)
  generalize hh1 : s.heap.push { cls := .type "set", dict := none, data := .set #[] 0 (.fresh 0 0 led) } = h1
  have kp : ∀ b o, s.heap.get? b = some o → h1.get? b = some o := fun b o e => by rw [← hh1]; exact Heap.get?_push_of_some _ e
  have sz : h1.objs.size = s.heap.objs.size + 1 := by rw [← hh1]; exact Heap.size_push ..
  have new : h1.get? s.heap.objs.size = some { cls := .type "set", dict := none, data := .set #[] 0 (.fresh 0 0 led) } := by rw [← hh1]; exact Heap.get?_push_size _ rfl
  have ty : ({ s with heap := h1 } : Shared).TypeIs (.ref s.heap.objs.size) "set" := ⟨_, new, rfl⟩
  refine ⟨ty, codeAny_call_builtin PySem.F.called_set.init.plain PySem.F.entry_set_init (check_set_init_1 ty ?_)⟩
  have el : its.length = zs.length := strs_len hz
  obtain ⟨⟨c, d, dt, sl⟩, ho, rfl, n, rfl⟩ := hl
  have ho1 := kp _ _ ho
  have lt : @LT.lt Nat _ l s.heap.objs.size := Heap.lt_size ho
  have il : h1.IsList l its.toArray := ⟨_, ho1, rfl, n, rfl⟩
  have n1 := PySem.F.sub_list_set
  have n2 := PySem.F.sub_list_frozenset
  have n3 : (Value.type "list" == Value.type "dict") = false := by decide
  unfold Builtin.«set.__init__» noKeywords Builtin.Frozenset.updateFrom
  generalize pi : pyIter = it
  wp_walk
  subst pi
  apply wpAny_pyIter_list il
  apply wpAny_bind; apply wpAny_runValue
  have W := (Walks.list (prog := prog) (w := w) (A := A.in1.in1.in1) (by simpa using hh) h1.objs.size l (by rw [sz]; exact Nat.ne_of_lt (Nat.lt_succ_of_lt lt)) its.toArray).toS
  have e0 : its.toArray.size = zs.length := by rw [List.size_toArray]; exact el
  rw [e0] at W
  refine texts_in (zs := zs) W ?_ (fun i v p => ?_) small zs.length 0 _ (Nat.zero_add _) ⟨⟨_, Heap.get?_push_size _ rfl, rfl, rfl⟩, il.push _⟩ ?_ fun t m x => ?_
  · rw [sz]
    intro q
    rcases List.mem_cons.mp q with q | q
    · exact absurd q (Nat.ne_of_lt (Nat.lt_succ_self _))
    · exact absurd (List.mem_singleton.mp q) (Nat.ne_of_gt lt)
  · have p' : its[i]? = some v := by simpa using p
    exact strs_at hz p'
  · exact (setObjOf_fresh (knd := strKind prog w) led).setOf (Heap.get?_push_of_some _ new) (by decide)
  · obtain ⟨h2, g2, d2, t2, o2⟩ := t
    cases (show g2 = s.gens from m.gens)
    cases (show d2 = s.drawn from m.drawn)
    cases (show o2 = s.os from m.os)
    apply wpAny_pure
    refine wpAny_pure ⟨rfl, h h2 t2 x fun b o e => m.heap b o ?_ (Heap.get?_push_of_some _ (kp b o e))⟩
    have lb : @LT.lt Nat _ b s.heap.objs.size := Heap.lt_size e
    rw [sz]
    intro q
    rcases List.mem_cons.mp q with q | q
    · exact absurd q (Nat.ne_of_lt lb)
    · exact absurd (List.mem_singleton.mp q) (Nat.ne_of_lt (Nat.lt_succ_of_lt lb))
end
end L2

set_option Elab.async false
set_option linter.all false
set_option maxRecDepth 100000
set_option maxHeartbeats 4000000
namespace L2
open PySem PySem.Spec PyProof.Rows
/-! ### sorted(texts) -/
def leS (a b : Str) : Bool := decide (a.cps.toList ≤ b.cps.toList)
theorem leS_iff {a b : Str} : leS a b = true ↔ a.cps.toList ≤ b.cps.toList := by simp [leS]
theorem leS_trans {a b c : Str} (h : leS a b = true) (k : leS b c = true) : leS a c = true := leS_iff.mpr (List.le_trans (leS_iff.mp h) (leS_iff.mp k))
theorem leS_anti {a b : Str} (h : leS a b = true) (k : leS b a = true) : a = b := by
  have e := List.le_antisymm (leS_iff.mp h) (leS_iff.mp k)
  cases a; cases b
  simp only [Str.mk.injEq]
  exact Array.toList_inj.mp e
theorem leS_total (a b : Str) : (leS a b || leS b a) = true := by
  rcases List.le_total a.cps.toList b.cps.toList with h | h
  · simp [leS_iff.mpr h]
  · simp [leS_iff.mpr h]
def srt (zs : List Str) : List Str := zs.mergeSort leS
theorem srt_perm (zs : List Str) : (srt zs).Perm zs := List.mergeSort_perm _ _
theorem srt_pw (zs : List Str) : (srt zs).Pairwise fun a b => leS a b = true := List.pairwise_mergeSort (le := leS) (fun _ _ _ h k => leS_trans h k) leS_total zs
theorem rising_pw : ∀ (l : List Str) (p : Str), risingS p l = true → (p :: l).Pairwise fun a b => leS a b = true
  | [], p, _ => by simp
  | x :: r, p, h => by
    have h' : (!ltCps x.cps.toList p.cps.toList && risingS x r) = true := h
    rw [Bool.and_eq_true] at h'
    have ih := rising_pw r x h'.2
    have px : leS p x = true := by
      have := h'.1
      rw [ltCps_eq] at this
      refine leS_iff.mpr ?_
      intro q
      rw [decide_eq_true q] at this
      cases this
    refine List.pairwise_cons.mpr ⟨fun y hy => ?_, ih⟩
    rcases List.mem_cons.mp hy with rfl | hy
    · exact px
    · exact leS_trans px ((List.pairwise_cons.mp ih).1 y hy)
theorem sorted_pw : ∀ (l : List Str), sortedS l = true → l.Pairwise fun a b => leS a b = true
  | [], _ => .nil
  | x :: r, h => rising_pw r x h
theorem pw_uniq : ∀ {l m : List Str}, l.Perm m → (l.Pairwise fun a b => leS a b = true) → (m.Pairwise fun a b => leS a b = true) → l = m
  | [], m, p, _, _ => (List.nil_perm.mp p).symm
  | x :: l, [], p, _, _ => absurd p (by simp)
  | x :: l, y :: m, p, a, b => by
    have a' := List.pairwise_cons.mp a
    have b' := List.pairwise_cons.mp b
    have e : x = y := by
      rcases List.mem_cons.mp (p.mem_iff.mp List.mem_cons_self) with q | q
      · exact q
      rcases List.mem_cons.mp (p.mem_iff.mpr List.mem_cons_self) with q' | q'
      · exact q'.symm
      · exact leS_anti (a'.1 y q') (b'.1 x q)
    subst e
    rw [pw_uniq ((List.perm_cons _).mp p) a'.2 b'.2]
theorem srt_of {zs ss : List Str} (p : ss.Perm zs) (h : ss.Pairwise fun a b => leS a b = true) : ss = srt zs := pw_uniq (p.trans (srt_perm zs).symm) h (srt_pw zs)
theorem srt_len (zs : List Str) : (srt zs).length = zs.length := (srt_perm zs).length_eq
section
variable {X : Cx}
theorem call_sorted_txt : CallR X (.builtin "sorted") (fun xs H Q => ∃ (p : Addr) (zs : List Str), xs = [.ref p] ∧ SqL X.K H p (zs.map V.str) ∧ zs.length < 64 ∧ ∀ l, H l = none → Q (.ref l) (upd H l (.lst ((srt zs).map V.str)))) := by
  intro pins s σ H xs us Q I r h
  obtain ⟨p, zs, rfl, hq, few, q⟩ := h
  obtain ⟨u, rfl, rx⟩ := vals1 r
  cases rx
  obtain ⟨its, rv, pl, hz⟩ := I.list hq
  have el := strs_len (strs_of rv)
  refine sorted_strs pl.isList (strs_of rv) (by omega) fun out ss a1 a2 a3 => ?_
  have e := srt_of a2 (sorted_pw ss a3)
  subst e
  obtain ⟨n, hn⟩ := sortedAll_at s.heap its out
  have lb : ((srt zs).map V.str).length ≤ sizeLine := by
    rw [List.length_map, srt_len]
    exact Nat.le_trans (Nat.le_of_lt few) (by decide)
  refine ⟨.ref (s.heap.objs.size + 1), _, I.laid (t' := s.toks) (o := .lst ((srt zs).map V.str)) (fun b o e => sortedAll_old e) (Nat.le_succ _) ?_, rfl, q _ (I.hok.fresh (Nat.le_succ _))⟩
  exact ⟨lb, out.toList, n, of_strs a1, by rw [hn]⟩
end
/-! ### values alike, within one another -/
def Al (K : PySem.W.Frag) (H : Hp) : Nat → V → V → Prop
  | 0, x, y => flatV x = true ∧ x = y
  | n + 1, x, y => (flatV x = true ∧ x = y) ∨ ∃ p q xs ys, x = .ref p ∧ y = .ref q ∧ ((SqL K H p xs ∧ SqL K H q ys) ∨ (SqT K H p xs ∧ SqT K H q ys)) ∧ xs.length = ys.length ∧ ∀ (i : Nat) a b, xs[i]? = some a → ys[i]? = some b → Al K H n a b
/-- two lists, or two tuples, alike -/
def AlS (K : PySem.W.Frag) (H : Hp) (n : Nat) (x y : V) : Prop :=
  ∃ p q xs ys, x = .ref p ∧ y = .ref q ∧ ((SqL K H p xs ∧ SqL K H q ys) ∨ (SqT K H p xs ∧ SqT K H q ys)) ∧ xs.length = ys.length ∧ ∀ (i : Nat) a b, xs[i]? = some a → ys[i]? = some b → Al K H n a b
theorem AlS.al {K : PySem.W.Frag} {H : Hp} {n : Nat} {x y : V} (h : AlS K H n x y) : Al K H (n + 1) x y := .inr h
theorem Al.txt {K : PySem.W.Frag} {H : Hp} {n : Nat} {z : Str} : Al K H n (.str z) (.str z) := by
  cases n
  · exact ⟨rfl, rfl⟩
  · exact .inl ⟨rfl, rfl⟩
theorem eqV_self {x : V} (h : flatV x = true) : eqV x x = true := by
  cases x <;> first | (exact absurd h Bool.false_ne_true) | simp [eqV]
theorem all_range (n : Nat) : (List.range n).all (fun _ => true) = true := by simp
section
variable {X : Cx} {pins : List (Addr × Obj)} {σ : St} {H : Hp} {s : Shared}
theorem al_at (I : Inv X pins σ H s) : ∀ (n : Nat) (x y : V) (u v : Value) (A : Around), Al X.K H n x y → RelV x u → RelV y v → A.units + n < cLine → SeqAt.EqAt A s u v true := by
  intro n
  induction n with
  | zero =>
    rintro x y u v A ⟨f, rfl⟩ ru rv _
    have h := eqAt_V (A := A) (s := s) ru rv f f
    rw [eqV_self f] at h
    exact h
  | succ n ih =>
    rintro x y u v A h ru rv hu
    rcases h with ⟨f, rfl⟩ | ⟨p, q, xs, ys, rfl, rfl, h, el, k⟩
    · have h := eqAt_V (A := A) (s := s) ru rv f f
      rw [eqV_self f] at h
      exact h
    · cases ru
      cases rv
      by_cases hpq : p = q
      · subst hpq; exact SeqAt.EqAt.same _
      refine SeqAt.EqAt.of_refs hpq ?_
      have low : A.in1.units + n < cLine := by rw [units_in1]; omega
      have item : ∀ {is js : List Value}, Vals xs is → Vals ys js → ∀ j (h1 : j < is.toArray.size) (h2 : j < js.toArray.size), SeqAt.EqAt A.in1 s is.toArray[j] js.toArray[j] true := fun {is js} ri rj j h1 h2 => by
        have b1 : j < xs.length := by rw [ri.length]; simpa using h1
        have b2 : j < ys.length := by rw [rj.length]; simpa using h2
        obtain ⟨u', e1, r1⟩ := ri.get (List.getElem?_eq_getElem b1)
        obtain ⟨v', e2, r2⟩ := rj.get (List.getElem?_eq_getElem b2)
        have c1 : is.toArray[j] = u' := by
          rw [List.getElem_toArray]
          have := List.getElem?_eq_getElem (l := is) (i := j) (by simpa using h1)
          rw [this] at e1; exact Option.some.inj e1
        have c2 : js.toArray[j] = v' := by
          rw [List.getElem_toArray]
          have := List.getElem?_eq_getElem (l := js) (i := j) (by simpa using h2)
          rw [this] at e2; exact Option.some.inj e2
        rw [c1, c2]
        exact ih _ _ _ _ _ (k j _ _ (List.getElem?_eq_getElem b1) (List.getElem?_eq_getElem b2)) r1 r2 low
      rcases h with ⟨hp, hq⟩ | ⟨hp, hq⟩
      · obtain ⟨is, ri, pi, _⟩ := I.list hp
        obtain ⟨js, rj, pj, _⟩ := I.list hq
        have z := SeqAt.RcAt.lists (A := A) (e := fun _ => true) pi.isList pj.isList (by simp only [List.size_toArray]; rw [← ri.length, ← rj.length]; exact el) (by omega) (item ri rj)
        rw [all_range] at z
        exact z
      · obtain ⟨is, ri, pi, _⟩ := I.tuple hp
        obtain ⟨js, rj, pj, _⟩ := I.tuple hq
        have z := SeqAt.RcAt.tuples (A := A) (e := fun _ => true) pi pj (by omega) (item ri rj)
        have e : (is.toArray.size == js.toArray.size) = true := by simp only [List.size_toArray, beq_iff_eq]; rw [← ri.length, ← rj.length]; exact el
        rw [all_range, e] at z
        exact z
theorem als_items (I : Inv X pins σ H s) {n : Nat} {xs ys : List V} {A : Around} (low : A.in1.units + n < cLine) (k : ∀ (i : Nat) a b, xs[i]? = some a → ys[i]? = some b → Al X.K H n a b) {is js : List Value} (ri : Vals xs is) (rj : Vals ys js) :
    ∀ j (h1 : j < is.toArray.size) (h2 : j < js.toArray.size), SeqAt.EqAt A.in1 s is.toArray[j] js.toArray[j] true := fun j h1 h2 => by
  have b1 : j < xs.length := by rw [ri.length]; simpa using h1
  have b2 : j < ys.length := by rw [rj.length]; simpa using h2
  obtain ⟨u', e1, r1⟩ := ri.get (List.getElem?_eq_getElem b1)
  obtain ⟨v', e2, r2⟩ := rj.get (List.getElem?_eq_getElem b2)
  have c1 : is.toArray[j] = u' := by
    rw [List.getElem_toArray]
    have := List.getElem?_eq_getElem (l := is) (i := j) (by simpa using h1)
    rw [this] at e1; exact Option.some.inj e1
  have c2 : js.toArray[j] = v' := by
    rw [List.getElem_toArray]
    have := List.getElem?_eq_getElem (l := js) (i := j) (by simpa using h2)
    rw [this] at e2; exact Option.some.inj e2
  rw [c1, c2]
  exact al_at I n _ _ _ _ _ (k j _ _ (List.getElem?_eq_getElem b1) (List.getElem?_eq_getElem b2)) r1 r2 low
end
section
variable {X : Cx}
/-- a == b, a and b alike -/
theorem op_eq_al (n : Nat) (hu : X.A.units + n + 1 < cLine) : OpR X (compareOp .Eq) (fun x y H Q => AlS X.K H n x y ∧ Q (.bl true) H) := by
  intro pins s σ H x y v u Q I rx ry h
  obtain ⟨⟨p, q, xs, ys, rfl, rfl, h, el, k⟩, fin⟩ := h
  cases rx
  cases ry
  have low : X.A.in1.units + n < cLine := by rw [units_in1]; omega
  rcases h with ⟨hp, hq⟩ | ⟨hp, hq⟩
  · obtain ⟨is, ri, pi, _⟩ := I.list hp
    obtain ⟨js, rj, pj, _⟩ := I.list hq
    refine SeqAt.eq_listAt (e := fun _ => true) pi.isList pj.isList (by simp only [List.size_toArray]; rw [← ri.length, ← rj.length]; exact el) (by omega) (als_items I low k ri rj) ?_
    exact fin_bl I fin (all_range _).symm
  · obtain ⟨is, ri, pi, _⟩ := I.tuple hp
    obtain ⟨js, rj, pj, _⟩ := I.tuple hq
    refine SeqAt.eq_tupleAt (e := fun _ => true) pi pj (by omega) (als_items I low k ri rj) ?_
    have e : (is.toArray.size == js.toArray.size) = true := by simp only [List.size_toArray, beq_iff_eq]; rw [← ri.length, ← rj.length]; exact el
    refine fin_bl I fin ?_
    rw [all_range, e]; rfl
/-- a != b, a and b alike -/
theorem op_ne_al (n : Nat) (hu : X.A.units + n + 1 < cLine) : OpR X (compareOp .NotEq) (fun x y H Q => AlS X.K H n x y ∧ Q (.bl false) H) := by
  intro pins s σ H x y v u Q I rx ry h
  obtain ⟨⟨p, q, xs, ys, rfl, rfl, h, el, k⟩, fin⟩ := h
  cases rx
  cases ry
  have low : X.A.in1.units + n < cLine := by rw [units_in1]; omega
  rcases h with ⟨hp, hq⟩ | ⟨hp, hq⟩
  · obtain ⟨is, ri, pi, _⟩ := I.list hp
    obtain ⟨js, rj, pj, _⟩ := I.list hq
    refine PySem.EqBoolInt.of_rcne (SeqAt.RcNeAt.lists (e := fun _ => true) pi.isList pj.isList (by simp only [List.size_toArray]; rw [← ri.length, ← rj.length]; exact el) (by omega) (als_items I low k ri rj)) ?_
    refine fin_bl I fin ?_
    rw [all_range]; rfl
  · obtain ⟨is, ri, pi, _⟩ := I.tuple hp
    obtain ⟨js, rj, pj, _⟩ := I.tuple hq
    refine PySem.EqBoolInt.of_rcne (SeqAt.RcNeAt.tuples (e := fun _ => true) pi pj (by omega) (als_items I low k ri rj)) ?_
    have e : (is.toArray.size == js.toArray.size) = true := by simp only [List.size_toArray, beq_iff_eq]; rw [← ri.length, ← rj.length]; exact el
    refine fin_bl I fin ?_
    rw [all_range, e]; rfl
/-! ### len(set(texts)) -/
def tLenSet (K : PySem.W.Frag) (te : TE) : TE := fun σ H Q => te σ H fun x H1 => ∃ (p : Addr) (zs : List Str), x = .ref p ∧ SqL K H1 p (zs.map V.str) ∧ zs.length + 1 < scanBound ∧ Q (.int (dist zs).length) H1
theorem pe_lenset {e : Expr} {te : TE} {xl xs : Str} {p1 p2 pos1 pos2 : Pos} (hc : X.calm = true) (he : PE X e te) (gl : Gl X xl) (ml : X.mg xl = none) (vl : bootBuiltins xl = some (.builtin "len")) (gs : Gl X xs) (ms : X.mg xs = none) (vs : bootBuiltins xs = some (.type "set"))
    (hn1 : xl ≠ "__name__" := by decide) (hd1 : (xl == ("__debug__" : Str)) = false := by decide) (hn2 : xs ≠ "__name__" := by decide) (hd2 : (xs == ("__debug__" : Str)) = false := by decide)
    (hs : starEach [e] X.env = [(false, eval e X.env)] := by rfl) : PE X (.Call (.Name xl p1) [.Call (.Name xs p2) [e] [] pos2] [] pos1) (tLenSet X.K te) := by
  intro pins s σ H Q I h
  refine wpAny_Call_Name_kw (ld_blt I gl ml vl ?_ hn1 hd1)
  refine PyProof.Rows.callWith_builtin1 ?_ rfl rfl
  show wpAny _ _ (spliced [(false, eval (.Call (.Name xs p2) [e] [] pos2) X.env)]) _ _ s
  refine Calls.spliced_cons ?_
  refine wpAny_Call_Name_kw (ld_blt I gs ms vs ?_ hn2 hd2)
  refine PyProof.Rows.callWith_type1 (thn (pa_cons he pa_nil hs pos2 pins s σ H (fun vs H1 => ∃ x, vs = [x] ∧ ∃ (p : Addr) (zs : List Str), x = .ref p ∧ SqL X.K H1 p (zs.map V.str) ∧ zs.length + 1 < scanBound ∧ Q (.int (dist zs).length) H1) I ?_) fun us s1 h1 => ?_) hs rfl
  · have mono := h
    refine ?_
    show te σ H _
    exact (show te σ H (fun x H1 => ∃ x', [x] = [x'] ∧ ∃ (p : Addr) (zs : List Str), x' = .ref p ∧ SqL X.K H1 p (zs.map V.str) ∧ zs.length + 1 < scanBound ∧ Q (.int (dist zs).length) H1) from by
      have e : (fun (x : V) (H1 : Hp) => ∃ x', [x] = [x'] ∧ ∃ (p : Addr) (zs : List Str), x' = .ref p ∧ SqL X.K H1 p (zs.map V.str) ∧ zs.length + 1 < scanBound ∧ Q (.int (dist zs).length) H1) = fun x H1 => ∃ (p : Addr) (zs : List Str), x = .ref p ∧ SqL X.K H1 p (zs.map V.str) ∧ zs.length + 1 < scanBound ∧ Q (.int (dist zs).length) H1 := by
        funext x H1
        refine propext ⟨fun ⟨x', e, r⟩ => ?_, fun r => ⟨x, rfl, r⟩⟩
        cases e
        exact r
      rw [e]
      exact h)
  · obtain ⟨vs', H1, I1, r1, x, rfl, p, zs, rfl, hq, small, q⟩ := h1
    obtain ⟨u, rfl, ru⟩ := vals1 r1
    cases ru
    obtain ⟨its, rv, pl, _⟩ := I1.list hq
    refine set_texts (I1.ok.hd hc) pl.isList (strs_of rv) small fun h' tk T kp => ?_
    refine Calls.spliced_nil ?_
    obtain ⟨o, es, ep, t, ho, hex, hd, _, _, hb, hf, hN⟩ := T
    have I2 : Inv X pins σ H1 { s1 with heap := h', toks := tk } := I1.kept (t' := tk) kp
    have fit : (es.size : Int) < 2 ^ 63 := by
      have : es.size < scanBound := hb
      have z : scanBound ≤ 4096 := by decide
      have : (es.size : Int) < 4096 := by omega
      exact Int.lt_of_lt_of_le this (by decide)
    rw [← hN] at q
    exact call_len_set ho hex hd hf fit ⟨.int es.size, H1, I2.tok _, ⟨_, rfl⟩, q⟩
end
end L2

set_option Elab.async false
set_option linter.all false
set_option maxRecDepth 100000
set_option maxHeartbeats 4000000
namespace L2
open PySem PySem.Spec PyProof.Rows
/-! ### dict comprehensions -/
/-- a block of one clause that makes a dict -/
structure DBlk where
  key : Expr
  val : Expr
  tgt : Expr
  src : Expr
  cs : List Expr
  sc : Scope
  pos : Pos
namespace DBlk
variable (B : DBlk)
abbrev expr : Expr := .DictComp B.key B.val [⟨B.tgt, B.src, B.cs, 0⟩] B.sc B.pos
section
variable (prog : Program) (w : World) (A : Around) (env : Env) (it : Value) (D : Addr)
def Lays (J : Shared → Prop) : Bool → Shared → Prop
  | false, s => J s
  | true, s => Blk.Tame prog w A (eval B.key env) (fun x => Blk.Tame prog w A (eval B.val env) fun y => Blk.Tame prog w A (dictSet D x y) fun _ => J) s
def Takes (J : Shared → Prop) (v : Value) : Shared → Prop :=
  Blk.Tame prog w A (letOwnedTupleGo B.tgt it v) fun _ => Blk.Tame prog w A (assign B.tgt env v) fun _ => Blk.Tame prog w A (allTests env B.cs) (B.Lays prog w A env D J)
def Next (Dn J : Shared → Prop) : Option Value → Shared → Prop
  | none => Dn
  | some v => B.Takes prog w A env it D J v
end
theorem loops {B : DBlk} {prog : Program} {w : World} {A : Around} {env : Env} {it : Value} {D : Addr} {R : Result → Shared → Prop} (G : Nat → Shared → Prop)
    (turn : ∀ k t, G k t → Blk.Tame prog w A (pyNext it) (B.Next prog w A env it D (R (.ok .next)) fun u => ∃ j, j < k ∧ G j u) t)
    {k : Nat} {t : Shared} (g : G k t) : codeAny (model prog w) A (.compLoop B.expr 0 it (.ref D) env) R t := by
  have one : ∀ k t, G k t → Blk.Tame prog w A (compTurn B.expr 0 it (.ref D) env) (fun x t' => match x with | .done r => R (.ok r) t' | .again c => c = .compLoop B.expr 0 it (.ref D) env ∧ ∃ j, j < k ∧ G j t') t := by
    intro k t g
    rw [show B.expr = .DictComp B.key B.val [⟨B.tgt, B.src, B.cs, 0⟩] B.sc B.pos from rfl, compTurn_dict]
    apply wpAny_bind; apply wpAny_standAt; apply wpAny_bind
    refine thn (turn k t g) fun x t1 h1 => ?_
    match x, h1 with
    | none, h1 => exact wpAny_pure h1
    | some v, h1 =>
      apply wpAny_bind; refine thn h1 fun _ t2 h2 => ?_
      apply wpAny_bind; refine thn h2 fun _ t3 h3 => ?_
      apply wpAny_bind; refine thn h3 fun b t4 h4 => ?_
      match b, h4 with
      | false, h4 => exact wpAny_pure ⟨rfl, h4⟩
      | true, h4 =>
        apply wpAny_bind; apply wpAny_bind
        refine thn h4 fun y t5 h5 => ?_
        apply wpAny_bind; apply wpAny_holding
        refine thn h5 fun z t6 h6 => ?_
        apply wpAny_bind; apply wpAny_standAt; apply wpAny_holding
        refine thn h6 fun _ t7 h7 => ?_
        exact wpAny_pure ⟨rfl, h7⟩
  exact codeAny_loop rfl G (fun k t g => wpAny_noted (wpAny_mono (one k t g) (fun _ _ q => q) fun _ _ f => f.elim)) k g
end DBlk
def dcLoop (own : List Str) (fr : List Nat) (g : TG) (tt : TT) (tk te : TE) (σ : St) (Q : VK) (J : It) (H1 : Hp) : Prop :=
  ∃ W : Nat → Nat → List (Key × V) → Hp → Prop, (∃ m, W 0 m [] H1) ∧ ∀ i m kvs H2, W i m kvs H2 → kvs.length ≤ sizeLine ∧
    ((J.stop i H2 ∧ ∀ D, H2 D = none → Q (.ref D) (upd H2 D (.dK kvs))) ∨
     (J.go i H2 ∧ ∀ x H3, J.yld i H2 x H3 → g x (cSt own fr σ) H3 fun σ4 H4 => tt σ4 H4 fun b H5 => if b = true then tk σ4 H5 fun y H6 => te σ4 H6 fun z H7 => ∃ k, y = kV k ∧ ∃ m', m' < m ∧ W (i + 1) m' (putK kvs k z) H7 else ∃ m', m' < m ∧ W (i + 1) m' kvs H5))
def tDC (own : List Str) (fr : List Nat) (wi : TI) (g : TG) (tt : TT) (tk te : TE) : TE := fun σ H Q => wi σ H (dcLoop own fr g tt tk te σ Q)
section
variable {X : Cx} {own : List Str} {fr : List Nat} {sc : Scope} {tg iter kx vx : Expr} {ifs : List Expr} {pos : Pos} {wi : TI} {g : TG} {tt : TT} {tk te : TE}
theorem dc_core {pins : List (Addr × Obj)} {σ : St} {H2 : Hp} {s2 : Shared} {Q : VK} {it : Addr} {fp : List Addr} {tn : Nat → Heap → Prop} {J : It} {RR : Value → Addr → Result → Shared → Prop} {E : Value → Shared → Prop} (hc : X.calm = true) (S : CompSc X own fr sc) (gk : GK own.length g)
    (hg : ∀ s H fp, PG (cxC X own fr sc s H fp) tg g) (ht : ∀ s H fp, PIfs (cxC X own fr sc s H fp) ifs tt) (hk : ∀ s H fp, PE (cxC X own fr sc s H fp) kx tk) (he : ∀ s H fp, PE (cxC X own fr sc s H fp) vx te)
    (I2 : Inv X pins σ H2 s2) (T : Turn X.prog X.w X.K tg J fp it tn) (st2 : tn 0 s2.heap) (f2 : ∀ b ∈ fp, FpOk X pins H2 b) (L : dcLoop own fr g tt tk te σ Q J H2)
    (hRR : ∀ D C s', (∃ m, s'.heap.Ns C m) → @LE.le Nat _ s2.heap.objs.size C → (∃ H', H' C = none ∧ Q (.ref D) H' ∧ ∀ h' tk, Heap.SameBut C s'.heap h' → Inv X pins σ H' { s' with heap := h', toks := tk }) → RR (.ref D) C (.ok .next) s') :
    wpAny (model X.prog X.w) X.A newDict (fun acc s₃ => wpAny (model X.prog X.w) X.A (newFunctionEnv sc X.env.globals (clOf X.env sc.names []) [] X.env.qual none .none (some X.env)) (fun cenv s₄ =>
      codeAny (model X.prog X.w) X.A (.compStart (.DictComp kx vx [⟨tg, iter, ifs, 0⟩] sc pos) 0 (.ref it) acc { cenv with scope := relabel sc X.env }) (RR acc cenv.locals) s₄) E s₃) E s2 := by
  obtain ⟨W, ⟨m0, w0⟩, turn⟩ := L
  refine wpAny_newObj_type (newEnv_comp ?_)
  dsimp only
  generalize hh1 : s2.heap.push { cls := .type "dict", dict := none, data := .dict #[] } = h1
  have hz : h1.objs.size = s2.heap.objs.size + 1 := by rw [← hh1, Heap.size_push]
  have hk1 : ∀ b o, s2.heap.get? b = some o → h1.get? b = some o := fun b o e => by rw [← hh1]; exact Heap.get?_push_of_some _ e
  have hD1 : h1.get? s2.heap.objs.size = some { cls := .type "dict", data := .dict #[] } := by rw [← hh1]; exact Heap.get?_push_size _ rfl
  have hfl : ∀ b ∈ fp, @LT.lt Nat _ b s2.heap.objs.size := fun b hb => by
    obtain ⟨o, e, _⟩ := T.obj _ _ st2 b hb
    exact Heap.lt_size e
  have I3 := inv_comp I2 S f2 hz hk1 hfl
  rw [hz]
  generalize hY : cxC X own fr sc s2 H2 fp = Y at I3
  have hD3 : (hC s2 sc h1).get? s2.heap.objs.size = some { cls := .type "dict", data := .dict #[] } := pushCells_keeps _ _ _ _ (Heap.get?_push_of_some _ hD1)
  have st3 : tn 0 (hC s2 sc h1) := T.keep _ _ _ st2 fun b _ o e => pushCells_keeps _ _ _ _ (Heap.get?_push_of_some _ (hk1 b o e))
  have eP : Y.prog = X.prog := by rw [← hY]; rfl
  have eW : Y.w = X.w := by rw [← hY]; rfl
  have eK : Y.K = X.K := by rw [← hY]; rfl
  have eA : Y.A = X.A := by rw [← hY]; rfl
  have eX : Y.xe = Nev := by rw [← hY]; rfl
  have ecm : Y.calm = true := by rw [← hY]; exact hc
  have eEnv : ({ scope := relabel sc X.env, locals := s2.heap.objs.size + 1, globals := X.env.globals, cells := cellsFrom (s2.heap.objs.size + 1 + 1) sc.names (clOf X.env sc.names []), qual := X.env.qual, func := none, code := X.env.code, frame := X.env.frame, builtins := X.env.builtins } : Env) = Y.env := by rw [← hY]; rfl
  have eL : Y.env.locals = s2.heap.objs.size + 1 := by rw [← hY]; rfl
  rw [eEnv]
  have hg' : PG Y tg g := hY ▸ hg s2 H2 fp
  have ht' : PIfs Y ifs tt := hY ▸ ht s2 H2 fp
  have he' : PE Y vx te := hY ▸ he s2 H2 fp
  have hk' : PE Y kx tk := hY ▸ hk s2 H2 fp
  -- the iterator's and the list's places, in the block
  have dfp : s2.heap.objs.size ∉ fp := fun z => Nat.lt_irrefl _ (hfl _ z)
  have dC : s2.heap.objs.size ≠ s2.heap.objs.size + 1 := Nat.ne_of_lt (Nat.lt_succ_self _)
  have cellN : ∀ x c, Y.env.cells.lookup x = some c → c ≠ s2.heap.objs.size := fun x c e z => by
    obtain ⟨v, o, q, d⟩ := I3.cell x c e
    rw [z] at q
    have q' := hD3.symm.trans q
    cases q'
    cases d
  have hDfs : s2.heap.objs.size ∉ Y.fs := by
    rw [← hY]
    intro z
    rcases List.mem_cons.mp (I2.stkSub _ z) with e | e
    · exact Nat.lt_irrefl _ (by have := I2.lt; rw [← e] at this; exact this)
    · exact I2.nofs (Nat.le_refl _) e
  have hD0 : @LE.le Nat _ Y.s₀.heap.objs.size s2.heap.objs.size := by rw [← hY]; exact Nat.le_refl _
  have fpY : ∀ {H' : Hp} {pp : List (Addr × Obj)}, (∀ b ∈ fp, H' b = none) → (∀ p ∈ pp, p.1 ∉ fp) → ∀ b ∈ fp, FpOk Y pp H' b := fun {H' pp} hn hp b hb => by
    refine ⟨hn b hb, ?_, ?_, ?_, ?_, fun p hq z => ?_⟩
    · have := hfl b hb; rw [eL]; intro z; have z' : @Eq Nat b (s2.heap.objs.size + 1) := z; omega
    · rw [← hY]
      intro z
      rcases List.mem_cons.mp (I2.stkSub _ z) with e | e
      · exact (f2 b hb).2.1 e
      · exact (f2 b hb).2.2.1 e
    · exact .inl (by rw [← hY]; exact hb)
    · exact (I3.ok.exf b (by rw [← hY]; exact hb)).2
    · rcases List.mem_append.mp hq with q | q
      · have : p ∈ ([] : List (Addr × Obj)) := by rw [← hY] at q; exact q
        exact nomatch this
      · exact hp p q (z ▸ hb)
  have pinD : ∀ {H' : Hp} {s' : Shared} {σ' : St} {ob : Obj}, Inv Y [] σ' H' s' → H' s2.heap.objs.size = none → s'.heap.get? s2.heap.objs.size = some ob → (∀ v, ob.data ≠ .cell v) → Inv Y [(s2.heap.objs.size, ob)] σ' H' s' := fun {H' s' σ' ob} J0 hn e d =>
    J0.pins_of fun p hp => by
      have : p = (s2.heap.objs.size, ob) := by simpa using hp
      subst this
      exact ⟨e, hn, by rw [eL]; exact dC, hDfs, d⟩
  have fpp : ∀ {ob : Obj} (p : Addr × Obj), p ∈ [(s2.heap.objs.size, ob)] → p.1 ∉ fp := fun {ob} p hp => by
    have : p = (s2.heap.objs.size, ob) := by simpa using hp
    subst this; exact dfp
  have loop : codeAny (model X.prog X.w) X.A (.compLoop (.DictComp kx vx [⟨tg, iter, ifs, 0⟩] sc pos) 0 (.ref it) (.ref s2.heap.objs.size) Y.env) (RR (.ref s2.heap.objs.size) (s2.heap.objs.size + 1)) { s2 with heap := hC s2 sc h1 } := by
    have hD4 : (hC s2 sc h1).DictOf (mixKind X.prog X.w) s2.heap.objs.size [] := (show h1.DictOf (mixKind X.prog X.w) s2.heap.objs.size [] from hh1 ▸ Heap.DictOf.new s2.heap).keep fun b o e => pushCells_keeps _ _ _ _ (Heap.get?_push_of_some _ e)
    refine DBlk.loops (B := ⟨kx, vx, tg, iter, ifs, sc, pos⟩) (fun n s' => ∃ i kvs vs H', W i n kvs H' ∧ Inv Y [] (cSt own fr σ) H' s' ∧ tn i s'.heap ∧ (∀ b ∈ fp, H' b = none) ∧ H' s2.heap.objs.size = none ∧ s'.heap.DictOf (mixKind X.prog X.w) s2.heap.objs.size vs ∧ KV kvs vs) ?_ (k := m0)
      ⟨0, [], [], H2, w0, I3, st3, fun b hb => (f2 b hb).1, I2.hok.fresh (Nat.le_refl _), hD4, .nil⟩
    rintro n s' ⟨i, kvs, vs, H', w', J0, st', fr', hDn, hDo, rv⟩
    obtain ⟨hyl, cases'⟩ := turn i n kvs H' w'
    obtain ⟨ob, es, ep, hob, hexd, hdat, hkeys, hpairs, hnod⟩ := hDo
    have hnc : ∀ v, ob.data ≠ .cell v := fun v z => by rw [hdat] at z; cases z
    have J1 := pinD J0 hDn hob hnc
    rcases cases' with ⟨stop, fin⟩ | ⟨go, step⟩
    · have d0 := T.done Y eP eW eK ecm i _ s' _ H' Nev J1 (fpY fr' fpp) st' stop
      rw [eA] at d0
      refine wpAny_mono d0 (fun r s4 ⟨hr, J4⟩ => ?_) fun _ _ z => z
      subst hr
      have pD := (J4.pin (s2.heap.objs.size, _) (List.mem_append_right _ List.mem_cons_self)).1
      refine hRR _ _ s4 ?_ (Nat.le_succ _) ⟨upd H' s2.heap.objs.size (.dK kvs), ?_, fin _ hDn, fun h' tk hs => ?_⟩
      · obtain ⟨m, hn, _⟩ := J4.loc
        rw [eL] at hn
        exact ⟨m, hn⟩
      · rw [upd_ne (Ne.symm dC), ← eL]; exact J4.free
      · subst hY
        have hO : ObjOk X.prog X.w (upd H' s2.heap.objs.size (.dK kvs)) h' s2.heap.objs.size (.dK kvs) := ⟨hyl, beq_eq_false_iff_ne.mpr (Ne.symm (Nat.ne_of_lt I2.big)), vs, rv, ob, es, ep, (hs.2 _ dC).trans pD, hexd, hdat, hkeys, hpairs, hnod⟩
        exact inv_back I2 f2 J4 (Nat.le_refl _) hDn dC hs hO tk
    · have d0 := T.item Y eP eW eK ecm i _ s' _ H' Nev J1 (fpY fr' fpp) st' go
      rw [eA] at d0
      refine wpAny_mono d0 (fun r s4 ⟨u, hr, h4⟩ => ?_) fun _ _ z => z
      subst hr
      refine wpAny_mono h4 (fun _ s5 ⟨x, H5, J5, r5, y5, st5, fr5⟩ => ?_) fun _ _ z => z
      have J5' := J5.pinned (fpY fr5 fpp) (T.obj _ _ st5)
      have s1 := hg' _ s5 _ H5 x u _ J5' r5 (gk _ _ _ _ (step x H5 y5))
      rw [eP, eW, eA, eX] at s1
      refine wpAny_mono s1 (fun _ s6 ⟨σ6, H6, J6, q6, kp6⟩ => ?_) fun _ _ z => z
      have s2' := ht' _ s6 σ6 H6 _ J6 q6
      rw [eP, eW, eA, eX] at s2'
      refine wpAny_mono s2' (fun ok s7 ⟨H7, J7, q7⟩ => ?_) fun _ _ z => z
      -- the turn's end
      have low : ∀ {H8 : Hp} {s8 : Shared}, Inv Y ([(s2.heap.objs.size, ob)] ++ pinsAt fp s5.heap) σ6 H8 s8 →
          Inv Y (pinsAt fp s5.heap) σ6 H8 s8 ∧ H8 s2.heap.objs.size = none ∧ s8.heap.get? s2.heap.objs.size = some ob ∧ (∀ b ∈ fp, H8 b = none) ∧ tn (i + 1) s8.heap := fun {H8 s8} J8 => by
        have p8 := J8.pin (s2.heap.objs.size, _) (List.mem_append_right _ (List.mem_append_left _ List.mem_cons_self))
        refine ⟨J8.pins_of fun p hp => J8.pin p (List.mem_append_right _ (List.mem_append_right _ hp)), p8.2.1, p8.1, fun b hb => ?_, T.keep _ _ _ st5 fun b hb o e => (J8.pin (b, o) (List.mem_append_right _ (List.mem_append_right _ (mem_pinsAt hb e)))).1⟩
        obtain ⟨o, e, d⟩ := T.obj _ _ st5 b hb
        exact (J8.pin (b, o) (List.mem_append_right _ (List.mem_append_right _ (mem_pinsAt hb e)))).2.1
      have weak : ∀ {H8 : Hp} {s8 : Shared} {pp : List (Addr × Obj)}, Inv Y pp σ6 H8 s8 → Inv Y [] (cSt own fr σ) H8 s8 := fun {H8 s8 pp} J8 => (J8.weak kp6.1.symm (fun j v e => by
        by_cases hj : j < own.length
        · exfalso
          unfold cSt at e
          rw [List.getElem?_append_left (by simpa using hj), List.getElem?_replicate] at e
          split at e <;> cases e
        · rw [kp6.2 j (Nat.not_lt.mp hj)]; exact e)).pins_of fun p hp => nomatch hp
      cases ok with
      | false =>
        obtain ⟨m', hm, w7⟩ := (show ∃ m', m' < n ∧ W (i + 1) m' kvs H7 by simpa using q7)
        obtain ⟨_, l1, l2, l3, l4⟩ := low J7
        exact ⟨m', hm, i + 1, kvs, vs, H7, w7, weak J7, l4, l3, l1, ⟨ob, es, ep, l2, hexd, hdat, hkeys, hpairs, hnod⟩, rv⟩
      | true =>
        have q7' : tk σ6 H7 fun y H6 => te σ6 H6 fun z H7 => ∃ k, y = kV k ∧ ∃ m', m' < n ∧ W (i + 1) m' (putK kvs k z) H7 := by simpa using q7
        have s3 := hk' _ s7 σ6 H7 _ J7 q7'
        rw [eP, eW, eA, eX] at s3
        show wpAny _ _ _ _ _ _
        refine wpAny_mono s3 (fun yv s8 ⟨y, H8, J8, r8, q8⟩ => ?_) fun _ _ z => z
        have s4' := he' _ s8 σ6 H8 _ J8 q8
        rw [eP, eW, eA, eX] at s4'
        refine wpAny_mono s4' (fun zv s9 ⟨z, H9, J9, r9, ky, ey, m', hm, w9⟩ => ?_) fun _ _ z => z
        subst ey
        obtain ⟨J9a, l1, l2, l3, l4⟩ := low J9
        refine wpAny_dictSet_pairs (knd := mixKind X.prog X.w) (hsz := by rw [← rv.length]; exact hyl) (kV_is r8) (⟨ob, es, ep, l2, hexd, hdat, hkeys, hpairs, hnod⟩ : s9.heap.DictOf (mixKind X.prog X.w) s2.heap.objs.size vs) fun h' hD' hs' => ?_
        have J10 : Inv Y [] (cSt own fr σ) H9 { s9 with heap := h', toks := s9.toks + 1 } := by
          refine (weak J9a).turned (t' := s9.toks + 1) (it := s2.heap.objs.size) (fun b o hb e => (hs'.2 b hb).trans e) l1 (by rw [eL]; exact dC) (.inr hD0) cellN fun p hp => ?_
          have : p ∈ ([] : List (Addr × Obj)) := by rw [← hY] at hp; exact hp
          exact nomatch this
        refine ⟨m', hm, i + 1, putK kvs ky z, stored vs ky zv, H9, w9, J10, ?_, l3, l1, hD', rv.put ky r9⟩
        exact T.keep _ _ _ l4 fun b hb o e => (hs'.2 b (fun z => dfp (z ▸ hb))).trans e
  exact codeAny_compStart_dict loop (T.self X.A 0 _ _ _ st3 loop)
/-- {kx: vx for tg in iter if ..} -/
theorem pe_dc (own : List Str) (fr : List Nat) (hc : X.calm = true) (S : CompSc X own fr sc) (gk : GK own.length g) (hi : PI X tg iter wi)
    (hg : ∀ s H fp, PG (cxC X own fr sc s H fp) tg g) (ht : ∀ s H fp, PIfs (cxC X own fr sc s H fp) ifs tt) (hk : ∀ s H fp, PE (cxC X own fr sc s H fp) kx tk) (he : ∀ s H fp, PE (cxC X own fr sc s H fp) vx te)
    (hs : ∀ x, foldedSetIterable iter X.env x = pure x := by intro _; rfl) : PE X (.DictComp kx vx [⟨tg, iter, ifs, 0⟩] sc pos) (tDC own fr wi g tt tk te) := by
  intro pins s σ H Q I h
  show wpAny _ _ (comprehension (.DictComp kx vx [⟨tg, iter, ifs, 0⟩] sc pos) sc X.env (firstIterPos [⟨tg, iter, ifs, 0⟩] pos) newDict (firstAsync [⟨tg, iter, ifs, 0⟩]) (firstIter [⟨tg, iter, ifs, 0⟩] X.env)) _ _ _
  have hclos : closureFor sc X.env = pure (clOf X.env sc.names []) := closureFor_of fun y hy hf => I.ok.has y.1 (by
    rcases S.fre y hy hf with q | q
    · exact .inl q
    · exact .inr q)
  refine wpAny_comprehension_free (use := none) rfl hs hclos S.kind (fun y hy hl => lookup_of_mem_nd S.nd (by rw [← hl]; exact hy)) ?_
  refine thn (hi pins s σ H _ I h) fun v s1 h1 => thn h1 fun itv s2 h2 => ?_
  obtain ⟨it, fp, tn, J, H2, e, I2, T, st2, f2, L⟩ := h2
  subst e
  exact dc_core hc S gk hg ht hk he I2 T st2 f2 L fun D C s' ⟨m, hn⟩ _ ⟨H', _, q, hi⟩ => ⟨m, hn, fun h' hs' => ⟨.ref D, H', hi h' s'.toks hs', rfl, q⟩⟩
/-- name = {kx: vx for tg in iter if ..} -/
theorem ps_setD {spos pos' : Pos} {i : Nat} {x : Str} (own : List Str) (fr : List Nat) (hN : X.N.Nodup) (hix : X.N[i]? = some x) (hx : X.env.scope.names.lookup x = some .local) (hc : X.calm = true) (S : CompSc X own fr sc) (gk : GK own.length g) (hi : PI X tg iter wi)
    (hg : ∀ s H fp, PG (cxC X own fr sc s H fp) tg g) (ht : ∀ s H fp, PIfs (cxC X own fr sc s H fp) ifs tt) (hk : ∀ s H fp, PE (cxC X own fr sc s H fp) kx tk) (he : ∀ s H fp, PE (cxC X own fr sc s H fp) vx te)
    (hsw : swapsWith (.DictComp kx vx [⟨tg, iter, ifs, 0⟩] sc pos) (some (.Name x pos')) spos.line X.env = pure true := by rfl)
    (hs : ∀ x, foldedSetIterable iter X.env x = pure x := by intro _; rfl) : PS X (.Assign [.Name x pos'] (.DictComp kx vx [⟨tg, iter, ifs, 0⟩] sc pos) spos) (tAsg (tDC own fr wi g tt tk te) (gName i)) := by
  intro pins s σ H D I h
  rw [exec_Assign_Name_used _ _ _ _ hsw]
  apply wpAny_bind; apply wpAny_standAt; apply wpAny_bind
  show wpAny _ _ (comprehension (.DictComp kx vx [⟨tg, iter, ifs, 0⟩] sc pos) sc X.env _ newDict false (eval iter X.env) (some (assign (.Name x pos') X.env)) >>= _) _ _ s
  apply wpAny_bind
  have hclos : closureFor sc X.env = pure (clOf X.env sc.names []) := closureFor_of fun y hy hf => I.ok.has y.1 (by
    rcases S.fre y hy hf with q | q
    · exact .inl q
    · exact .inr q)
  refine wpAny_mono (wpAny_comprehension_free (use := some (assign (.Name x pos') X.env)) (Q := fun _ s' => SP X pins D .next s') rfl hs hclos S.kind (fun y hy hl => lookup_of_mem_nd S.nd (by rw [← hl]; exact hy)) ?_) (fun _ s' q => wpAny_pure (wpAny_pure q)) fun _ _ z => z
  refine thn (hi pins s σ H _ I h) fun v s1 h1 => thn h1 fun itv s2 h2 => ?_
  obtain ⟨it, fp, tn, J, H2, e, I2, T, st2, f2, L⟩ := h2
  subst e
  exact dc_core hc S gk hg ht hk he I2 T st2 f2 L fun D0 C s' ns le h => stored_use (R := D.nx) I2 hN hix hx ns le h
end
end L2
namespace L2
open PySem PySem.Spec PyProof.Rows
theorem dc_list {K : PySem.W.Frag} {a : Addr} {xs : List V} {own : List Str} {fr : List Nat} {g : TG} {tt : TT} {tk te : TE} {σ : St} {Q : VK} {H : Hp} (Pv : Nat → List (Key × V) → Hp → Prop) (h0 : Pv 0 [] H) (hlen : ∀ i kvs H, i ≤ xs.length → Pv i kvs H → kvs.length ≤ sizeLine)
    (hl : ∀ i kvs H, i ≤ xs.length → Pv i kvs H → SqL K H a xs)
    (hs : ∀ i x kvs H (R : List (Key × V) → Hp → Prop), xs[i]? = some x → Pv i kvs H → (∀ kvs' H', Pv (i + 1) kvs' H' → R kvs' H') → g x (cSt own fr σ) H fun σ4 H4 => tt σ4 H4 fun b H5 => if b = true then tk σ4 H5 fun y H6 => te σ4 H6 fun z H7 => ∃ k, y = kV k ∧ R (putK kvs k z) H7 else R kvs H5)
    (hd : ∀ kvs H, Pv xs.length kvs H → ∀ D, H D = none → Q (.ref D) (upd H D (.dK kvs))) : dcLoop own fr g tt tk te σ Q (Itl K a) H := by
  refine ⟨fun i m kvs H => m = xs.length - i ∧ i ≤ xs.length ∧ Pv i kvs H, ⟨xs.length, rfl, Nat.zero_le _, h0⟩, ?_⟩
  rintro i m kvs H2 ⟨rfl, hi, p⟩
  refine ⟨hlen i kvs H2 hi p, ?_⟩
  have q := hl i kvs H2 hi p
  by_cases h : i < xs.length
  · refine .inr ⟨⟨xs, xs[i], q, by simp [h]⟩, fun x H3 hy => ?_⟩
    obtain ⟨rfl, hy⟩ := hy
    have z := hs i x kvs _ (fun kvs' H' => ∃ m', m' < xs.length - i ∧ (m' = xs.length - (i + 1) ∧ i + 1 ≤ xs.length ∧ Pv (i + 1) kvs' H')) (hy xs q) p fun kvs' H' q => ⟨xs.length - (i + 1), by omega, rfl, h, q⟩
    exact z
  · have e : i = xs.length := by omega
    subst e
    exact .inl ⟨⟨xs, q, Nat.le_refl _⟩, hd kvs H2 p⟩
/-! ### a dict of texts, each with a list -/
def tab : List Str → List Addr → List (Key × V)
  | z :: zs, l :: ls => (Sum.inr z, V.ref l) :: tab zs ls
  | _, _ => []
theorem tab_len : ∀ {zs : List Str} {ls : List Addr}, ls.length = zs.length → (tab zs ls).length = zs.length
  | [], [], _ => rfl
  | [], _ :: _, h => by simp at h
  | _ :: _, [], h => by simp at h
  | z :: zs, l :: ls, h => by
    show (tab zs ls).length + 1 = zs.length + 1
    rw [tab_len (by simpa using h)]
theorem tab_snoc : ∀ {zs : List Str} {ls : List Addr} (z : Str) (l : Addr), ls.length = zs.length → tab (zs ++ [z]) (ls ++ [l]) = tab zs ls ++ [(Sum.inr z, V.ref l)]
  | [], [], _, _, _ => rfl
  | [], _ :: _, _, _, h => by simp at h
  | _ :: _, [], _, _, h => by simp at h
  | x :: zs, y :: ls, z, l, h => by
    show (Sum.inr x, V.ref y) :: tab (zs ++ [z]) (ls ++ [l]) = _
    rw [tab_snoc z l (by simpa using h)]
    rfl
theorem tab_none : ∀ {zs : List Str} {ls : List Addr} {z : Str}, z ∉ zs → valV (tab zs ls) (Sum.inr z : Key) = none
  | [], _, _, _ => rfl
  | _ :: _, [], _, _ => rfl
  | x :: zs, y :: ls, z, h => by
    have h1 : ¬ x = z := fun e => h (e ▸ List.mem_cons_self)
    show valV ((Sum.inr x, V.ref y) :: tab zs ls) _ = _
    rw [valV_neg (fun e => h1 (Sum.inr.inj e))]
    exact tab_none fun m => h (List.mem_cons_of_mem _ m)
theorem tab_at : ∀ {zs : List Str} {ls : List Addr} {i : Nat} {z : Str} {l : Addr}, zs.Nodup → zs[i]? = some z → ls[i]? = some l → valV (tab zs ls) (Sum.inr z : Key) = some (.ref l)
  | [], _, _, _, _, _, h, _ => by simp at h
  | _ :: _, [], _, _, _, _, _, h => by simp at h
  | x :: zs, y :: ls, 0, z, l, _, h1, h2 => by
    have e1 : x = z := by simpa using h1
    have e2 : y = l := by simpa using h2
    subst e1 e2
    exact valV_pos rfl
  | x :: zs, y :: ls, i + 1, z, l, nd, h1, h2 => by
    rw [List.nodup_cons] at nd
    have h1' : zs[i]? = some z := by simpa using h1
    have ne : ¬ x = z := fun e => nd.1 (e ▸ List.mem_of_getElem? h1')
    show valV ((Sum.inr x, V.ref y) :: tab zs ls) _ = _
    rw [valV_neg (fun e => ne (Sum.inr.inj e))]
    exact tab_at nd.2 h1' (by simpa using h2)
theorem tab_keys : ∀ {zs : List Str} {ls : List Addr}, ls.length = zs.length → (tab zs ls).map (·.1) = zs.map Sum.inr
  | [], [], _ => rfl
  | [], _ :: _, h => by simp at h
  | _ :: _, [], h => by simp at h
  | z :: zs, l :: ls, h => by
    show Sum.inr z :: (tab zs ls).map (·.1) = Sum.inr z :: zs.map Sum.inr
    rw [tab_keys (by simpa using h)]
theorem nd_at {α : Type} {l : List α} (nd : l.Nodup) {i j : Nat} {x : α} (hi : l[i]? = some x) (hj : l[j]? = some x) : i = j := by
  obtain ⟨h1, e1⟩ := List.getElem?_eq_some_iff.mp hi
  obtain ⟨h2, e2⟩ := List.getElem?_eq_some_iff.mp hj
  exact (List.getElem_inj nd).mp (e1.trans e2.symm)
end L2

set_option Elab.async false
set_option linter.all false
set_option maxRecDepth 100000
set_option maxHeartbeats 4000000
namespace L2
open PySem PySem.Spec PyProof.Rows
/-! ### sorted of a dict whose keys are texts -/
theorem strs_all : ∀ {us : List Value} {zs : List Str}, us.length = zs.length → (∀ (j : Nat) (u : Value), us[j]? = some u → ∃ z t, zs[j]? = some z ∧ u = .str z t) → StrsAre us zs
  | [], [], _, _ => .nil
  | [], _ :: _, h, _ => by simp at h
  | _ :: _, [], h, _ => by simp at h
  | u :: us, z :: zs, h, k => by
    obtain ⟨z', t, e1, e2⟩ := k 0 u rfl
    cases e1
    subst e2
    exact .cons z t (strs_all (by simpa using h) fun j w e => by simpa using k (j + 1) w (by simpa using e))
section
variable {prog : Program} {w : World} {A : Around} {E : Value → Shared → Prop} {s : Shared}
/-- the tree of list.sort behind a list that was just laid -/
theorem sorts_new {h : Heap} {tk : Nat} {us : List Value} {zs : List Str} {Q : Value → Shared → Prop} (hz : StrsAre us zs) (few : us.length < 64)
    (q : ∀ (out : List Value) (n : Nat) (h2 : Heap), StrsAre out (srt zs) → (∀ b o, h.get? b = some o → h2.get? b = some o) → h2.get? h.objs.size = some { cls := .type "list", data := .seq out.toArray n } → Q (.ref h.objs.size) { s with heap := h2, toks := tk }) :
    wpAny (model prog w) A (call (.builtin "list.sort") [.ref h.objs.size]) (fun _ s' => Q (.ref h.objs.size) s') E { s with heap := h.push { cls := .type "list", data := .seq us.toArray }, toks := tk } := by
  have at0 : (h.push { cls := .type "list", data := .seq us.toArray }).get? h.objs.size = some (seqObj "list" us.toArray 0) := Heap.get?_push_size _ rfl
  refine wpAny_call_entry PySem.F.slot_list_sort ⟨_, at0, rfl⟩ PySem.F.entry_list_sort ?_ (args_list_sort _)
  refine list_sort_treeK strKind_oneLt at0 hz.keysOf (fun a b r e => keyKind_strs (by rw [← e]; exact hz)) few fun st p1 p2 => ⟨_, rfl, ?_⟩
  obtain ⟨ss, c1, c2, c3⟩ := sorted_out_str hz p1 p2
  have e := srt_of c2 (sorted_pw ss c3)
  subst e
  obtain ⟨n, hn⟩ := sortedHeap_at (out := (arrOf st).map (·.2)) at0
  refine q _ n _ c1 (fun b o eb => ?_) (by rw [hn])
  have lt : b < h.objs.size := Heap.lt_size eb
  rw [sortedHeap_old (Nat.ne_of_lt lt) (by rw [Heap.size_push]; exact Nat.lt_succ_of_lt lt)]
  exact Heap.get?_push_of_some _ eb
end
/-- a new object at a place where nothing stood -/
theorem Inv.laidN {X : Cx} {pins : List (Addr × Obj)} {σ : St} {H : Hp} {s : Shared} {h' : Heap} {a : Addr} {o : HO} {t' : Nat} (I : Inv X pins σ H s) (k : ∀ b u, s.heap.get? b = some u → h'.get? b = some u) (hp : s.heap.get? a = none) (hn : H a = none) (new : ObjOk X.prog X.w (upd H a o) h' a o) :
    Inv X pins σ (upd H a o) { s with heap := h', toks := t' } := by
  refine I.un ⟨fun b u q _ _ _ => k b u q, fun b u q _ _ _ => ⟨u.slots, k b u q⟩, fun b u q n _ => ?_, fun b u q _ => ⟨u, k b u q⟩, fun b xs q => ?_, fun b u xs q => ?_, fun b ps q => ⟨#[], ?_⟩⟩ fun b u e => ?_
  · rw [upd_ne (fun z => by rw [z, hp] at q; cases q)]; exact n
  · rw [upd_ne (ne_of_none q hn)]; exact q
  · rw [upd_ne (ne_of_none q hn)]; exact q
  · rw [upd_ne (ne_of_none q hn), q]; simp
  · by_cases hb : b = a
    · subst hb; rw [upd_same] at e; cases e; exact new
    · rw [upd_ne hb] at e
      refine (I.hok b u e).stay (fun c v _ q => k c v q) (fun c q => ?_) fun c xs q => ?_
      · rw [upd_ne (ne_of_none q hn)]; exact q
      · rw [upd_ne (ne_of_none q hn)]; exact q
/-- the texts that are a dict's keys -/
def KTxt (kvs : List (Key × V)) (zs : List Str) : Prop := kvs.map (·.1) = zs.map Sum.inr
section
variable {X : Cx}
theorem call_sorted_dk (hc : X.calm = true) : CallR X (.builtin "sorted") (fun xs H Q => ∃ (p : Addr) (kvs : List (Key × V)) (zs : List Str), xs = [.ref p] ∧ H p = some (.dK kvs) ∧ KTxt kvs zs ∧ zs.length < 64 ∧ ∀ l, H l = none → Q (.ref l) (upd H l (.lst ((srt zs).map V.str)))) := by
  intro pins s σ H xs us Q I r h
  obtain ⟨p, kvs, zs, rfl, hp, hk, few, q⟩ := h
  obtain ⟨u, rfl, rx⟩ := vals1 r
  cases rx
  obtain ⟨z, lo, vs, rel, dd⟩ := dk_of I.hok hp
  obtain ⟨ep, da⟩ := dd.dictAt
  have hl : vs.length = zs.length := by rw [← rel.length, ← List.length_map (f := (·.1)), hk, List.length_map]
  refine Calls.call_function_entry kind_sorted plain_sorted entry_sorted (args_sorted1 _) ?_
  unfold Builtin.«sorted»
  apply wpAny_bind (m := checkCount "sorted" 1 1 _)
  apply wpAny_pure
  apply wpAny_bind
  refine PySem.W.kdu_collect (PySem.W.kdl_dict (knd := mixKind X.prog X.w) (kvs := vs) (ep := ep) lo) (A := X.A.in1) (by exact I.ok.hd hc) da (by rw [hl]; exact Nat.le_trans (Nat.le_of_lt few) (by decide)) fun h1 tk acc keep items => ?_
  have la : acc.toList.length = zs.length := by rw [Array.length_toList, items.1, hl]
  have txt : StrsAre acc.toList zs := strs_all la fun j u e => by
    obtain ⟨k, x, e1, e2⟩ := items.2 j u (by rw [← Array.getElem?_toList]; exact e)
    have e3 : (vs.map (·.1))[j]? = some k := by rw [List.getElem?_map, e1]; rfl
    rw [← rel.keys, hk, List.getElem?_map] at e3
    obtain ⟨z', e4, rfl⟩ := Option.map_eq_some_iff.mp e3
    have e2' : keyIs (Sum.inr z') u = true := e2
    obtain ⟨i, t, q1, q2⟩ | ⟨y, t, q1, q2⟩ := keyIs_shape e2'
    · cases q1
    · cases q1
      exact ⟨z', t, e4, q2⟩
  apply wpAny_bind
  refine wpAny_newList ?_ (by rw [la]; exact Nat.le_trans (Nat.le_of_lt few) (by decide))
  apply wpAny_bind
  apply wpAny_holding
  refine wpAny_mono (sorts_new (prog := X.prog) (w := X.w) (s := s) (h := h1) (tk := tk) (Q := EP X pins σ Q) txt (by rw [la]; exact few) fun out n h2 o1 o2 o3 => ?_) (fun _ _ z => wpAny_pure ⟨_, rfl, z⟩) fun _ _ z => z
  have no : s.heap.get? h1.objs.size = none := by
    cases e : s.heap.get? h1.objs.size with
    | none => rfl
    | some o => exact absurd (Heap.lt_size (keep _ _ e)) (Nat.lt_irrefl _)
  have noH : H h1.objs.size = none := by
    cases e : H h1.objs.size with
    | none => rfl
    | some o =>
      obtain ⟨u, eu⟩ := (I.hok _ _ e).there
      rw [no] at eu; cases eu
  refine ⟨.ref h1.objs.size, _, I.laidN (t' := tk) (o := .lst ((srt zs).map V.str)) (fun b o e => o2 _ _ (keep _ _ e)) no noH ?_, rfl, q _ noH⟩
  refine ⟨by rw [List.length_map, srt_len]; exact Nat.le_trans (Nat.le_of_lt few) (by decide), out, n, of_strs o1, o3⟩
end
end L2

set_option Elab.async false
set_option linter.all false
set_option maxRecDepth 100000
set_option maxHeartbeats 4000000
namespace L2
open PySem PySem.Spec PyProof.Rows
/-! ### what a place reaches -/
inductive Rch (ps : List (Str × Str)) : Str → Str → Prop where
  | here (a : Str) : Rch ps a a
  | on {a b c : Str} (h : Rch ps a b) (t : (b, c) ∈ ps) : Rch ps a c
theorem Rch.trans {ps : List (Str × Str)} {a b c : Str} (h : Rch ps a b) (k : Rch ps b c) : Rch ps a c := by
  induction k with
  | here => exact h
  | on _ t ih => exact ih.on t
theorem Rch.one {ps : List (Str × Str)} {a b : Str} (t : (a, b) ∈ ps) : Rch ps a b := (Rch.here a).on t
theorem Rch.mono {ps qs : List (Str × Str)} {a b : Str} (h : Rch ps a b) (s : ∀ p ∈ ps, p ∈ qs) : Rch qs a b := by
  induction h with
  | here => exact .here _
  | on _ t ih => exact ih.on (s _ t)
theorem Rch.isin {ns : List Str} {ps : List (Str × Str)} (hi : ∀ p ∈ ps, p.1 ∈ ns ∧ p.2 ∈ ns) {a b : Str} (h : Rch ps a b) (ha : a ∈ ns) : b ∈ ns := by
  cases h with
  | here => exact ha
  | on _ t => exact (hi _ t).2
/-- a set that has the place and is left by no tie has all that it reaches -/
theorem Rch.stays {ps : List (Str × Str)} {S : Str → Prop} {a b : Str} (h : Rch ps a b) (ha : S a) (hc : ∀ p ∈ ps, S p.1 → S p.2) : S b := by
  induction h with
  | here => exact ha
  | on _ t ih => exact hc _ t ih
open Classical in
noncomputable def rch (ns : List Str) (ps : List (Str × Str)) (a : Str) : List Str := srt (ns.filter fun z => decide (Rch ps a z))
theorem perm_of {α : Type} [DecidableEq α] : ∀ {l m : List α}, l.Nodup → m.Nodup → (∀ x, x ∈ l ↔ x ∈ m) → l.Perm m := fun hl hm h => (List.perm_ext_iff_of_nodup hl hm).mpr h
theorem srt_same {l m : List Str} (hl : l.Nodup) (hm : m.Nodup) (h : ∀ x, x ∈ l ↔ x ∈ m) : srt l = srt m :=
  srt_of ((srt_perm l).trans (perm_of hl hm h)) (srt_pw l)
theorem srt_mem {l : List Str} {x : Str} : x ∈ srt l ↔ x ∈ l := (srt_perm l).mem_iff
theorem srt_nd {l : List Str} (h : l.Nodup) : (srt l).Nodup := (srt_perm l).nodup_iff.mpr h
theorem rch_nd {ns : List Str} {ps : List (Str × Str)} {a : Str} (h : ns.Nodup) : (rch ns ps a).Nodup := srt_nd (h.filter _)
theorem rch_mem {ns : List Str} {ps : List (Str × Str)} {a z : Str} : z ∈ rch ns ps a ↔ z ∈ ns ∧ Rch ps a z := by
  unfold rch
  rw [srt_mem, List.mem_filter]
  simp
theorem rch_len {ns : List Str} {ps : List (Str × Str)} {a : Str} : (rch ns ps a).length ≤ ns.length := by
  unfold rch
  rw [srt_len]
  exact List.length_filter_le _ _
theorem rch_of {ns zs : List Str} {ps : List (Str × Str)} {a : Str} (hn : ns.Nodup) (hz : zs.Nodup) (hi : ∀ p ∈ ps, p.1 ∈ ns ∧ p.2 ∈ ns) (ha : a ∈ ns) (h : ∀ z, z ∈ zs ↔ Rch ps a z) : srt zs = rch ns ps a := by
  refine srt_same hz (hn.filter _) fun x => ?_
  rw [h, List.mem_filter]
  simp only [decide_eq_true_eq]
  exact ⟨fun r => ⟨r.isin hi ha, r⟩, fun r => r.2⟩
theorem srt_srt (l : List Str) : srt (srt l) = srt l := (srt_of (srt_perm (srt l) |>.trans (srt_perm l)) (srt_pw (srt l)))
theorem rch_srt {ns : List Str} {ps : List (Str × Str)} {a : Str} (hn : ns.Nodup) : rch (srt ns) ps a = rch ns ps a := by
  unfold rch
  refine srt_same ((srt_nd hn).filter _) (hn.filter _) fun x => ?_
  rw [List.mem_filter, List.mem_filter, srt_mem]
/-- to where ties lead from a place, in order -/
def outs (ps : List (Str × Str)) (a : Str) : List Str := (ps.filter fun p => decide (p.1 = a)).map (·.2)
theorem outs_mem {ps : List (Str × Str)} {a b : Str} : b ∈ outs ps a ↔ (a, b) ∈ ps := by
  unfold outs
  rw [List.mem_map]
  constructor
  · rintro ⟨p, hp, rfl⟩
    obtain ⟨h1, h2⟩ := List.mem_filter.mp hp
    have : p.1 = a := by simpa using h2
    rw [← this]; exact h1
  · intro h
    exact ⟨(a, b), List.mem_filter.mpr ⟨h, by simp⟩, rfl⟩
theorem outs_snoc (ps : List (Str × Str)) (p : Str × Str) (a : Str) : outs (ps ++ [p]) a = if p.1 = a then outs ps a ++ [p.2] else outs ps a := by
  unfold outs
  rw [List.filter_append, List.map_append]
  by_cases h : p.1 = a <;> simp [h]
theorem outs_len (ps : List (Str × Str)) (a : Str) : (outs ps a).length ≤ ps.length := by
  unfold outs
  rw [List.length_map]
  exact List.length_filter_le _ _
theorem nd_le {l m : List Str} (hl : l.Nodup) (h : ∀ x ∈ l, x ∈ m) : l.length ≤ m.length := by
  induction l generalizing m with
  | nil => exact Nat.zero_le _
  | cons x l ih =>
    rw [List.nodup_cons] at hl
    have hx := h x List.mem_cons_self
    have q := ih (m := m.erase x) hl.2 fun y hy => (List.mem_erase_of_ne (fun e : y = x => hl.1 (e ▸ hy))).mpr (h y (List.mem_cons_of_mem _ hy))
    rw [List.length_erase_of_mem hx] at q
    have : 0 < m.length := List.length_pos_of_mem hx
    simp only [List.length_cons]
    omega
end L2

set_option Elab.async false
set_option linter.all false
set_option maxRecDepth 100000
set_option maxHeartbeats 4000000
namespace L2
open PySem PySem.Spec PyProof.Rows
/-! ### for k, x in enumerate(list) -/
def Ite (K : PySem.W.Frag) (a : Addr) : It :=
  ⟨fun i H => ∃ xs x, SqL K H a xs ∧ xs[i]? = some x, fun i H x H' => ∃ q y, H q = none ∧ (∀ xs, SqL K H a xs → xs[i]? = some y) ∧ x = .ref q ∧ H' = upd H q (.tup [.int i, y]), fun i H => ∃ xs, SqL K H a xs ∧ xs.length ≤ i⟩
theorem turn_enum {P : Program} {w : World} {K : PySem.W.Frag} {elts : List Expr} {x1} {tp : Pos} (a e it : Addr) (ne : e ≠ it) : Turn P w K (.Tuple elts x1 tp) (Ite K a) [e, it] e (fun i h => (∃ old, IsEnum h e it i old) ∧ h.IsListIter it a i) where
  mem := by simp
  obj := fun i h st b hb => by
    obtain ⟨⟨old, he⟩, o, ho, c, d⟩ := st
    rcases List.mem_cons.mp hb with q | q
    · subst q; exact ⟨_, he, fun v z => nomatch z⟩
    · have q' : b = it := by simpa using q
      subst q'; exact ⟨o, ho, fun v z => by rw [d] at z; cases z⟩
  keep := fun i h h' st k => ⟨let ⟨old, he⟩ := st.1; ⟨old, k e (by simp) _ he⟩, st.2.at fun o q => k it (by simp) o q⟩
  item := by
    intro X hP hw hK hc i pins s σ H E I hf st hg
    subst hP hw hK
    obtain ⟨⟨old, he⟩, hit⟩ := st
    obtain ⟨xs, x, hq, hx⟩ := hg
    obtain ⟨its, rv, p, hz⟩ := I.list hq
    obtain ⟨u, hu, ru⟩ := rv.get hx
    have f1 := hf e (by simp)
    have f2 := hf it (by simp)
    refine wpAny_pyNext_enum_item he hit p.isList (x := u) (by simpa using hu) ne fun h1 o1 i1 t1 z1 k1 => ⟨_, rfl, ?_⟩
    refine wpAny_letOwnedTupleGo_enum o1 fun h2 e2 sb => ?_
    have nq : ∀ {b : Addr} {o : Obj}, s.heap.get? b = some o → b ≠ s.heap.objs.size := fun {b o} q => Nat.ne_of_lt (Heap.lt_size q)
    have ltE : @LT.lt Nat _ e s.heap.objs.size := Heap.lt_size he
    have ltI : @LT.lt Nat _ it s.heap.objs.size := let ⟨o, q, _⟩ := hit; Heap.lt_size q
    have qe : s.heap.objs.size ≠ e := fun z => by have z' : @Eq Nat s.heap.objs.size e := z; omega
    have hn : H s.heap.objs.size = none := I.hok.fresh (Nat.le_refl _)
    have kk : ∀ b o, b ≠ e → b ≠ it → s.heap.get? b = some o → h2.get? b = some o := fun b o n1 n2 q => (sb.2 b n1).trans (k1 b o n1 n2 q)
    have tq : h2.get? s.heap.objs.size = some { cls := .type "tuple", data := .seq #[.int i s.toks, u] } := (sb.2 _ qe).trans t1
    have hH : ∀ b o, H b = some o → b ≠ e ∧ b ≠ it ∧ b ≠ s.heap.objs.size := fun b o q => ⟨ne_of_none q f1.1, ne_of_none q f2.1, ne_of_none q hn⟩
    refine ⟨.ref s.heap.objs.size, upd H s.heap.objs.size (.tup [.int i, x]), ?_, rfl, ⟨_, x, hn, fun ys hy => by rw [I.list_inj hy hq]; exact hx, rfl, rfl⟩, ⟨⟨u, e2⟩, i1.at fun o q => (sb.2 _ (Ne.symm ne)).trans q⟩, fun b hb => ?_⟩
    · refine Inv.call' (ch := [e, it]) I (s' := { s with heap := h2, toks := s.toks + 1 }) rfl ⟨fun b ob q n hb hx => ?_, fun b ob q n hb hx => ?_, fun b ob q n hx => ?_, fun b ob q hx => ?_, fun b ys q => ?_, fun b ob ys q => ?_, fun b ps q => ⟨#[], ?_⟩⟩ ?_ I.bare fun b hb => ?_
      · exact kk b ob (fun z => hx (by simp [z])) (fun z => hx (by simp [z])) q
      · exact ⟨ob.slots, kk b ob (fun z => hx (by simp [z])) (fun z => hx (by simp [z])) q⟩
      · rw [upd_ne (nq q)]; exact n
      · exact ⟨ob, kk b ob (fun z => hx (by simp [z])) (fun z => hx (by simp [z])) q⟩
      · rw [upd_ne (hH _ _ q).2.2]; exact q
      · rw [upd_ne (hH _ _ q).2.2]; exact q
      · rw [upd_ne (hH _ _ q).2.2, q]; simp
      · intro b ob q
        by_cases hb : b = s.heap.objs.size
        · subst hb
          rw [upd_same] at q
          cases q
          exact ⟨by show 2 ≤ sizeLine; decide, [.int i s.toks, u], .cons ⟨_, rfl⟩ (.cons ru .nil), ⟨_, tq, rfl, 0, rfl⟩⟩
        · rw [upd_ne hb] at q
          refine (I.hok b ob q).stay (fun c v hc g => ?_) (fun c g => ?_) fun c ys g => ?_
          · refine kk c v ?_ ?_ g
            · rcases hc with z | z
              · rw [z]; exact (hH _ _ q).1
              · exact (hH _ _ z).1
            · rcases hc with z | z
              · rw [z]; exact (hH _ _ q).2.1
              · exact (hH _ _ z).2.1
          · rw [upd_ne (hH _ _ g).2.2]; exact g
          · rw [upd_ne (hH _ _ g).2.2]; exact g
      · rcases List.mem_cons.mp hb with z | z
        · subst z; exact ⟨f1.2.2.2.1, f1.2.1, f1.2.2.2.2.1, f1.2.2.2.2.2⟩
        · have z' : b = it := by simpa using z
          subst z'; exact ⟨f2.2.2.2.1, f2.2.1, f2.2.2.2.2.1, f2.2.2.2.2.2⟩
    · have lt : b ≠ s.heap.objs.size := by
        rcases List.mem_cons.mp hb with z | z
        · rw [z]; exact Nat.ne_of_lt ltE
        · have z' : b = it := by simpa using z
          rw [z']; exact Nat.ne_of_lt ltI
      rw [upd_ne lt]; exact (hf b hb).1
  done := by
    intro X hP hw hK hc i pins s σ H E I hf st hg
    subst hP hw hK
    obtain ⟨⟨old, he⟩, hit⟩ := st
    obtain ⟨xs, hq, hx⟩ := hg
    obtain ⟨its, rv, p, hz⟩ := I.list hq
    obtain ⟨f0, f1, f2, f3, f4, f5⟩ := hf it (by simp)
    have hl := rv.length
    exact wpAny_pyNext_enum_end (I.ok.hd hc) he hit p.isList (by simp; omega) fun h' eb => ⟨rfl, I.turned (t' := s.toks) (fun b o hb q => eb b o hb q) f0 f1 f3 f4 f5⟩
  self := fun _ _ _ _ _ st h => let ⟨⟨_, he⟩, _⟩ := st; wpAny_pyIter_enum he h
def iEnum (K : PySem.W.Frag) (ta : TA) : TI := fun σ H R => ta σ H fun vs H1 => ∃ a, vs = [.ref a] ∧ (∃ xs, SqL K H1 a xs) ∧ R (Ite K a) H1
section
variable {X : Cx}
theorem pi_enum {elts : List Expr} {x1} {tp : Pos} {l : Expr} {ta : TA} {p pos : Pos} (hg : Gl X "enumerate") (hm : X.mg "enumerate" = none) (ha : PA X [l] ta) (hs : starEach [l] X.env = [(false, eval l X.env)] := by rfl) : PI X (.Tuple elts x1 tp) (.Call (.Name "enumerate" p) [l] [] pos) (iEnum X.K ta) := by
  intro pins s σ H R I h
  refine wpAny_Call_Name_kw (ld_blt I hg hm PyProof.Rows.boot_enumerate ?_)
  refine PyProof.Rows.callWith_type1 (thn (ha pos pins s σ H _ I h) fun us s1 ⟨vs, H1, I1, r1, q1⟩ => ?_) hs rfl
  obtain ⟨a, rfl, ⟨xs, hq⟩, q⟩ := q1
  obtain ⟨u, rfl, ru⟩ := vals1 r1
  cases ru
  obtain ⟨its, rv, pl, hz⟩ := I1.list hq
  refine call_enumerate_list pl.isList fun h' e1 i1 z1 k1 => ?_
  refine wpAny_pyIter_enum e1 ?_
  have ne : s1.heap.objs.size + 1 ≠ s1.heap.objs.size := Nat.succ_ne_self _
  refine ⟨s1.heap.objs.size + 1, [s1.heap.objs.size + 1, s1.heap.objs.size], _, _, H1, rfl, I1.kept (t' := s1.toks) k1, turn_enum a _ _ ne, ⟨⟨_, e1⟩, i1⟩, fun b hb => ?_, q⟩
  have le : @LE.le Nat _ s1.heap.objs.size b := by
    rcases List.mem_cons.mp hb with z | z
    · rw [z]; exact Nat.le_succ _
    · have z' : b = s1.heap.objs.size := by simpa using z
      rw [z']; exact Nat.le_refl _
  exact I1.fpOk le (I1.hok.fresh le)
end
theorem for_enum {K : PySem.W.Frag} {a : Addr} {xs : List V} {g : TG} {tb : TS} {D : Ends} {σ : St} {H : Hp} (Pv : Nat → St → Hp → Prop) (h0 : Pv 0 σ H) (hl : ∀ i σ H, i ≤ xs.length → Pv i σ H → SqL K H a xs)
    (hs : ∀ i x σ H q, xs[i]? = some x → Pv i σ H → H q = none → g (.ref q) σ (upd H q (.tup [.int i, x])) fun σ2 H2 => tb { D with nx := Pv (i + 1), ct := Pv (i + 1), bk := D.nx } σ2 H2) (hd : ∀ σ H, Pv xs.length σ H → D.nx σ H) :
    ∃ W : Nat → Nat → St → Hp → Prop, (∃ m, W 0 m σ H) ∧ ∀ i m σ H, W i m σ H →
      ((Ite K a).stop i H ∧ D.nx σ H) ∨ ((Ite K a).go i H ∧ ∃ N : St → Hp → Prop, (∀ σ' H', N σ' H' → ∃ m', m' < m ∧ W (i + 1) m' σ' H') ∧ ∀ x H', (Ite K a).yld i H x H' → g x σ H' fun σ2 H2 => tb { D with nx := N, ct := N, bk := D.nx } σ2 H2) := by
  refine ⟨fun i m σ H => m = xs.length - i ∧ i ≤ xs.length ∧ Pv i σ H, ⟨xs.length, by simp, Nat.zero_le _, h0⟩, ?_⟩
  rintro i m σ H ⟨rfl, hi, p⟩
  have q := hl i σ H hi p
  by_cases hlt : i < xs.length
  · refine .inr ⟨⟨xs, xs[i], q, by simp [hlt]⟩, Pv (i + 1), fun σ' H' p' => ⟨xs.length - (i + 1), by omega, rfl, hlt, p'⟩, fun x H' ⟨r, y, hr, hy, e1, e2⟩ => ?_⟩
    subst e1 e2
    exact hs i y σ _ r (hy xs q) p hr
  · have e : i = xs.length := by omega
    subst e
    exact .inl ⟨⟨xs, q, Nat.le_refl _⟩, hd σ H p⟩
end L2

set_option Elab.async false
set_option linter.all false
set_option maxRecDepth 100000
set_option maxHeartbeats 4000000
namespace L2
open PySem PySem.Spec PyProof.Rows
section
variable {X : Cx} {e k : Expr} {te tk : TE} {p2 pos : Pos}
/-- xs[::-1] of a list -/
def tRev (K : PySem.W.Frag) (te tk : TE) : TE := fun σ H Q => te σ H fun x H1 => tk σ H1 fun y H2 => y = .int (-1) ∧ ∃ a xs, x = .ref a ∧ SqL K H2 a xs ∧ ∀ p, H2 p = none → Q (.ref p) (upd H2 p (.lst xs.reverse))
theorem Vals.rev {xs : List V} {us : List Value} (r : Vals xs us) : Vals xs.reverse us.reverse := by
  induction r with
  | nil => exact .nil
  | cons h _ ih =>
    rw [List.reverse_cons, List.reverse_cons]
    exact ih.append (.cons h .nil)
theorem pe_rev {ops : Value → Value → List Value} (he : PE X e te) (hk : PE X k tk) (hs : ∀ ov iv, subscripted (.Slice none none (some k) p2) false ov iv = operate (ops ov iv) (getItem ov iv) := by intro _ _; with_unfolding_all rfl) : PE X (.Subscript e (.Slice none none (some k) p2) pos) (tRev X.K te tk) := by
  intro pins s σ H Q I h
  refine Subscript_ (thn (he pins s σ H _ I h) fun v s1 ⟨x, H1, I1, r1, q1⟩ => ?_)
  refine wpAny_Slice ?_
  rw [evalPart_none]
  refine wpAny_pure ?_
  refine wpAny_pure ?_
  rw [evalPart_some]
  refine thn (hk pins s1 σ H1 _ I1 q1) fun vk s3 ⟨y, H3, I3, rk, e1, a, xs, e2, hq, q3⟩ => ?_
  subst e1 e2
  obtain ⟨t, rfl⟩ := rk
  cases r1
  have I4 : Inv X pins σ H3 { s3 with heap := s3.heap.push { cls := .type "slice", data := .fields #[.none, .none, .int (-1) t] } } := I3.kept (t' := s3.toks) fun b ob q => Heap.get?_push_of_some _ q
  obtain ⟨its, r, pl, hz⟩ := I4.list hq
  show wpAny (model X.prog X.w) X.A (subscriptTail e (.Slice none none (some k) p2) (.ref a) (.ref s3.heap.objs.size)) (EP X pins σ Q) X.xe { s3 with heap := s3.heap.push { cls := .type "slice", data := .fields #[.none, .none, .int (-1) t] } }
  refine tail_any pl.isList.typeIs slot_list_getitem.lookup ?_ (hs _ _)
  refine wpAny_getItem_list_slice pl.isList (Heap.IsSliceOf.new ..) .none .none (.int _ _) (by decide) ?_ (by rw [List.size_toArray, ← r.length]; exact hz)
  rw [PySem.W.krv_pick]
  refine ⟨.ref _, _, I4.laid (t' := s3.toks) (o := .lst xs.reverse) (fun b ob q => Heap.get?_push_of_some _ q) (Nat.le_refl _) ?_, rfl, q3 _ (I4.hok.fresh (Nat.le_refl _))⟩
  exact ⟨by rw [List.length_reverse]; exact hz, _, 0, r.rev, Heap.get?_push_size _ rfl⟩
end
end L2

set_option Elab.async false
set_option linter.all false
set_option maxRecDepth 100000
set_option maxHeartbeats 4000000
namespace L2
open PySem PySem.Spec PyProof.Rows
/-! ### ways by how many ties they have -/
def Wk (ps : List (Str × Str)) (a : Str) : Nat → Str → Prop
  | 0, z => z = a
  | n + 1, z => ∃ y, Wk ps a n y ∧ (y, z) ∈ ps
/-- as few ties as can be -/
def Lv (ps : List (Str × Str)) (a : Str) (n : Nat) (z : Str) : Prop := Wk ps a n z ∧ ∀ m, m < n → ¬ Wk ps a m z
section
variable {ps : List (Str × Str)} {a : Str}
theorem Wk.rch : ∀ {n : Nat} {z : Str}, Wk ps a n z → Rch ps a z
  | 0, z, h => by rw [show z = a from h]; exact .here _
  | n + 1, z, ⟨y, h, t⟩ => (Wk.rch h).on t
theorem Rch.wk {z : Str} (h : Rch ps a z) : ∃ n, Wk ps a n z := by
  induction h with
  | here => exact ⟨0, rfl⟩
  | on _ t ih =>
    obtain ⟨n, h⟩ := ih
    exact ⟨n + 1, _, h, t⟩
theorem Wk.lv {n : Nat} {z : Str} (h : Wk ps a n z) : ∃ m, m ≤ n ∧ Lv ps a m z := by
  induction n using Nat.strongRecOn with
  | _ n ih =>
    by_cases q : ∃ m, m < n ∧ Wk ps a m z
    · obtain ⟨m, lt, w⟩ := q
      obtain ⟨k, le, l⟩ := ih m lt w
      exact ⟨k, by omega, l⟩
    · exact ⟨n, Nat.le_refl _, h, fun m lt w => q ⟨m, lt, w⟩⟩
theorem Rch.lv {z : Str} (h : Rch ps a z) : ∃ n, Lv ps a n z := let ⟨_, w⟩ := h.wk; let ⟨m, _, l⟩ := w.lv; ⟨m, l⟩
theorem Lv.rch {n : Nat} {z : Str} (h : Lv ps a n z) : Rch ps a z := h.1.rch
theorem Lv.uniq {n m : Nat} {z : Str} (h : Lv ps a n z) (k : Lv ps a m z) : n = m := by
  rcases Nat.lt_trichotomy n m with q | q | q
  · exact absurd h.1 (k.2 n q)
  · exact q
  · exact absurd k.1 (h.2 m q)
theorem Lv.pred {n : Nat} {z : Str} (h : Lv ps a (n + 1) z) : ∃ y, Lv ps a n y ∧ (y, z) ∈ ps := by
  obtain ⟨⟨y, w, t⟩, no⟩ := h
  exact ⟨y, ⟨w, fun m lt q => no (m + 1) (by omega) ⟨y, q, t⟩⟩, t⟩
theorem Lv.succ {n : Nat} {y z : Str} (h : Lv ps a n y) (t : (y, z) ∈ ps) (no : ∀ m, m ≤ n → ¬ Lv ps a m z) : Lv ps a (n + 1) z :=
  ⟨⟨y, h.1, t⟩, fun m lt w => let ⟨k, le, l⟩ := w.lv; no k (by omega) l⟩
theorem Lv.none {r : Nat} (h : ∀ z, ¬ Lv ps a r z) : ∀ (d : Nat) (z : Str), ¬ Lv ps a (r + d) z
  | 0, z => h z
  | d + 1, z => fun l => let ⟨y, ly, _⟩ := (show Lv ps a (r + d + 1) z from l).pred; Lv.none h d y ly
theorem lv0 : Lv ps a 0 a := ⟨rfl, fun m lt => by omega⟩
theorem lv0_eq {z : Str} (h : Lv ps a 0 z) : z = a := h.1
/-- the first tie by which z is come to at round n + 1 -/
def First (ps : List (Str × Str)) (a : Str) (n k : Nat) (z : Str) : Prop := ∃ y, ps[k]? = some (y, z) ∧ Lv ps a n y ∧ ∀ j, j < k → ∀ y', ps[j]? = some (y', z) → ¬ Lv ps a n y'
theorem First.uniq {n k j : Nat} {z : Str} (h : First ps a n k z) (q : First ps a n j z) : k = j := by
  obtain ⟨y, e1, l1, m1⟩ := h
  obtain ⟨y', e2, l2, m2⟩ := q
  rcases Nat.lt_trichotomy k j with x | x | x
  · exact absurd l1 (m2 k x y e1)
  · exact x
  · exact absurd l2 (m1 j x y' e2)
theorem First.lv {n k : Nat} {z : Str} (h : First ps a n k z) (no : ∀ m, m ≤ n → ¬ Lv ps a m z) : Lv ps a (n + 1) z := let ⟨_, e, l, _⟩ := h; l.succ (List.mem_of_getElem? e) no
/-- the ties of the way that is told, the last one first -/
def TW (ps : List (Str × Str)) (a : Str) : List Nat → Str → Prop
  | [], z => z = a
  | k :: bk, z => ∃ n y, Lv ps a (n + 1) z ∧ First ps a n k z ∧ ps[k]? = some (y, z) ∧ TW ps a bk y
theorem TW.uniq : ∀ {l m : List Nat} {z : Str}, TW ps a l z → TW ps a m z → l = m
  | [], [], _, _, _ => rfl
  | [], k :: m, z, h, ⟨n, y, l, _⟩ => absurd (show Wk ps a 0 z from h) (l.2 0 (by omega))
  | k :: m, [], z, ⟨n, y, l, _⟩, h => absurd (show Wk ps a 0 z from h) (l.2 0 (by omega))
  | k :: l, j :: m, z, ⟨n, y, l1, f1, e1, t1⟩, ⟨n', y', l2, f2, e2, t2⟩ => by
    have en : n = n' := by have := l1.uniq l2; omega
    subst en
    have ek := f1.uniq f2
    subst ek
    rw [e1] at e2
    cases e2
    rw [TW.uniq t1 t2]
theorem TW.len : ∀ {l : List Nat} {z : Str}, TW ps a l z → Lv ps a l.length z
  | [], z, h => by rw [show z = a from h]; exact lv0
  | k :: l, z, ⟨n, y, l1, ⟨y', e1, l2, _⟩, e2, t⟩ => by
    rw [e1] at e2
    cases e2
    have := (TW.len t).uniq l2
    rw [List.length_cons, this]
    exact l1
/-- a way: ties, each leading on from where the one ahead led -/
def IsWay (ps : List (Str × Str)) : List Nat → Str → Str → Prop
  | [], x, z => x = z
  | k :: ks, x, z => ∃ y, ps[k]? = some (x, y) ∧ IsWay ps ks y z
theorem IsWay.snoc : ∀ {ks : List Nat} {x y z : Str} {k : Nat}, IsWay ps ks x y → ps[k]? = some (y, z) → IsWay ps (ks ++ [k]) x z
  | [], x, y, z, k, h, e => ⟨z, by rw [show x = y from h]; exact e, rfl⟩
  | j :: ks, x, y, z, k, ⟨u, e1, h⟩, e => ⟨u, e1, IsWay.snoc h e⟩
theorem TW.way : ∀ {l : List Nat} {z : Str}, TW ps a l z → IsWay ps l.reverse a z
  | [], z, h => (show z = a from h).symm
  | k :: l, z, ⟨n, y, _, _, e, t⟩ => by
    rw [List.reverse_cons]
    exact (TW.way t).snoc e
end
/-! ### dicts by texts -/
def tabV (zs : List (Str × V)) : List (Key × V) := zs.map fun p => (Sum.inr p.1, p.2)
theorem tabV_none : ∀ {zs : List (Str × V)} {z : Str}, z ∉ zs.map (·.1) → valV (tabV zs) (Sum.inr z : Key) = none
  | [], _, _ => rfl
  | p :: zs, z, h => by
    have h1 : ¬ p.1 = z := fun e => h (by rw [List.map_cons, e]; exact List.mem_cons_self)
    show valV ((Sum.inr p.1, p.2) :: tabV zs) _ = _
    rw [valV_neg (fun e => h1 (Sum.inr.inj e))]
    exact tabV_none fun m => h (by rw [List.map_cons]; exact List.mem_cons_of_mem _ m)
theorem tabV_at : ∀ {zs : List (Str × V)} {z : Str} {v : V}, (zs.map (·.1)).Nodup → (z, v) ∈ zs → valV (tabV zs) (Sum.inr z : Key) = some v
  | [], _, _, _, h => nomatch h
  | p :: zs, z, v, nd, h => by
    rw [List.map_cons, List.nodup_cons] at nd
    show valV ((Sum.inr p.1, p.2) :: tabV zs) _ = _
    rcases List.mem_cons.mp h with e | e
    · rw [← e]; exact valV_pos rfl
    · have ne : ¬ p.1 = z := fun q => nd.1 (by rw [q]; exact List.mem_map.mpr ⟨_, e, rfl⟩)
      rw [valV_neg (fun q => ne (Sum.inr.inj q))]
      exact tabV_at nd.2 e
theorem tabV_put {zs : List (Str × V)} {z : Str} {v : V} (h : z ∉ zs.map (·.1)) : putK (tabV zs) (Sum.inr z : Key) v = tabV (zs ++ [(z, v)]) := by
  rw [putK_new _ (tabV_none h)]
  simp [tabV]
theorem tabV_len (zs : List (Str × V)) : (tabV zs).length = zs.length := by simp [tabV]
theorem tabV_has {zs : List (Str × V)} {z : Str} (nd : (zs.map (·.1)).Nodup) : (valV (tabV zs) (Sum.inr z : Key)).isSome = decide (z ∈ zs.map (·.1)) := by
  by_cases h : z ∈ zs.map (·.1)
  · obtain ⟨p, hp, e⟩ := List.mem_map.mp h
    have hp' : (z, p.2) ∈ zs := by rw [← e]; exact hp
    rw [tabV_at nd hp', decide_eq_true h]
    rfl
  · rw [tabV_none h, decide_eq_false h]
    rfl
/-! ### the flood by rounds -/
/-- behind r rounds: ks all that is come to, ed what was come to last -/
structure Bf (ns : List Str) (ps : List (Str × Str)) (a : Str) (r : Nat) (ks ed : List Str) : Prop where
  nd : ks.Nodup
  sub : ∀ z ∈ ks, z ∈ ns
  mem : ∀ z, z ∈ ks ↔ ∃ m, m ≤ r ∧ Lv ps a m z
  edge : ∀ z, z ∈ ed ↔ Lv ps a r z
/-- within a round, behind i ties -/
structure Bt (ns : List Str) (ps : List (Str × Str)) (a : Str) (r : Nat) (ks : List Str) (i : Nat) (nw : List Str) : Prop where
  nd : (ks ++ nw).Nodup
  sub : ∀ z ∈ ks ++ nw, z ∈ ns
  lv : ∀ z ∈ nw, Lv ps a (r + 1) z
  done : ∀ (j : Nat) (p : Str × Str), j < i → ps[j]? = some p → Lv ps a r p.1 → p.2 ∈ ks ++ nw
section
variable {ns ks ed nw : List Str} {ps : List (Str × Str)} {a : Str} {r i : Nat} {p : Str × Str}
theorem Bf.start (ha : a ∈ ns) : Bf ns ps a 0 [a] [a] where
  nd := by simp
  sub := fun z h => by rw [List.mem_singleton.mp h]; exact ha
  mem := fun z => ⟨fun h => by rw [List.mem_singleton.mp h]; exact ⟨0, Nat.le_refl _, lv0⟩, fun ⟨m, le, l⟩ => by
    have : m = 0 := by omega
    subst this
    rw [lv0_eq l]; exact List.mem_singleton.mpr rfl⟩
  edge := fun z => ⟨fun h => by rw [List.mem_singleton.mp h]; exact lv0, fun l => by rw [lv0_eq l]; exact List.mem_singleton.mpr rfl⟩
theorem Bf.begin (B : Bf ns ps a r ks ed) : Bt ns ps a r ks 0 [] where
  nd := by rw [List.append_nil]; exact B.nd
  sub := fun z h => by rw [List.append_nil] at h; exact B.sub z h
  lv := fun z h => nomatch h
  done := fun j p h => by omega
theorem Bt.not_le (B : Bf ns ps a r ks ed) (T : Bt ns ps a r ks i nw) {z : Str} (h : z ∉ ks ++ nw) : ∀ m, m ≤ r → ¬ Lv ps a m z := fun m le l => h (List.mem_append_left _ ((B.mem z).mpr ⟨m, le, l⟩))
/-- a tie from the edge to what is not come to yet -/
theorem Bt.more (B : Bf ns ps a r ks ed) (T : Bt ns ps a r ks i nw) (hI : ∀ p ∈ ps, p.1 ∈ ns ∧ p.2 ∈ ns) (e : ps[i]? = some p) (h1 : p.1 ∈ ed) (h2 : p.2 ∉ ks ++ nw) : Bt ns ps a r ks (i + 1) (nw ++ [p.2]) where
  nd := by rw [← List.append_assoc]; exact nd_snoc T.nd h2
  sub := fun z h => by
    rw [← List.append_assoc] at h
    rcases List.mem_append.mp h with q | q
    · exact T.sub z q
    · rw [List.mem_singleton.mp q]; exact (hI p (List.mem_of_getElem? e)).2
  lv := fun z h => by
    rcases List.mem_append.mp h with q | q
    · exact T.lv z q
    · rw [List.mem_singleton.mp q]
      exact ((B.edge _).mp h1).succ (List.mem_of_getElem? e) (T.not_le B h2)
  done := fun j q lt ej l => by
    rw [← List.append_assoc]
    rcases Nat.lt_or_ge j i with x | x
    · exact List.mem_append_left _ (T.done j q x ej l)
    · have : j = i := by omega
      subst this
      rw [e] at ej
      cases ej
      exact List.mem_append_right _ (List.mem_singleton.mpr rfl)
/-- any other tie -/
theorem Bt.skip (B : Bf ns ps a r ks ed) (T : Bt ns ps a r ks i nw) (e : ps[i]? = some p) (h : p.1 ∈ ed → p.2 ∈ ks ++ nw) : Bt ns ps a r ks (i + 1) nw where
  nd := T.nd
  sub := T.sub
  lv := T.lv
  done := fun j q lt ej l => by
    rcases Nat.lt_or_ge j i with x | x
    · exact T.done j q x ej l
    · have : j = i := by omega
      subst this
      rw [e] at ej
      cases ej
      exact h ((B.edge _).mpr l)
theorem Bt.first (B : Bf ns ps a r ks ed) (T : Bt ns ps a r ks i nw) (e : ps[i]? = some p) (h1 : p.1 ∈ ed) (h2 : p.2 ∉ ks ++ nw) : First ps a r i p.2 :=
  ⟨p.1, e, (B.edge _).mp h1, fun j lt y' ej l => h2 (T.done j (y', p.2) lt ej l)⟩
theorem Bt.finish (B : Bf ns ps a r ks ed) (T : Bt ns ps a r ks i nw) (hi : ps.length ≤ i) : Bf ns ps a (r + 1) (ks ++ nw) nw where
  nd := T.nd
  sub := T.sub
  mem := fun z => by
    have key : Lv ps a (r + 1) z → z ∈ ks ++ nw := fun l => by
      obtain ⟨y, ly, t⟩ := l.pred
      obtain ⟨j, hj, ej⟩ := List.getElem_of_mem t
      exact T.done j (y, z) (by omega) (by rw [List.getElem?_eq_getElem hj, ej]) ly
    constructor
    · intro h
      rcases List.mem_append.mp h with q | q
      · obtain ⟨m, le, l⟩ := (B.mem z).mp q
        exact ⟨m, by omega, l⟩
      · exact ⟨r + 1, Nat.le_refl _, T.lv z q⟩
    · rintro ⟨m, le, l⟩
      rcases Nat.lt_or_ge m (r + 1) with x | x
      · exact List.mem_append_left _ ((B.mem z).mpr ⟨m, by omega, l⟩)
      · have : m = r + 1 := by omega
        subst this
        exact key l
  edge := fun z => by
    refine ⟨T.lv z, fun l => ?_⟩
    obtain ⟨y, ly, t⟩ := l.pred
    obtain ⟨j, hj, ej⟩ := List.getElem_of_mem t
    rcases List.mem_append.mp (T.done j (y, z) (by omega) (by rw [List.getElem?_eq_getElem hj, ej]) ly) with q | q
    · obtain ⟨m, le, l'⟩ := (B.mem z).mp q
      have := l.uniq l'
      omega
    · exact q
theorem Bf.all (B : Bf ns ps a r ks []) (z : Str) : z ∈ ks ↔ Rch ps a z := by
  have no : ∀ z, ¬ Lv ps a r z := fun z l => nomatch (B.edge z).mpr l
  rw [B.mem]
  constructor
  · rintro ⟨m, _, l⟩; exact l.rch
  · intro h
    obtain ⟨n, l⟩ := h.lv
    refine ⟨n, ?_, l⟩
    rcases Nat.lt_or_ge r n with x | x
    · obtain ⟨d, rfl⟩ : ∃ d, n = r + d := ⟨n - r, by omega⟩
      exact absurd l (Lv.none no d z)
    · exact x
end
end L2

set_option Elab.async false
set_option linter.all false
set_option maxRecDepth 100000
set_option maxHeartbeats 4000000
namespace L2
open PySem PySem.Spec PyProof.Rows
section
variable {X : Cx}
/-- a != b, lists of other lengths -/
def rNeLen (K : PySem.W.Frag) : R2 := fun x y H Q => ∃ p q xs ys, x = .ref p ∧ y = .ref q ∧ SqL K H p xs ∧ SqL K H q ys ∧ xs.length ≠ ys.length ∧ Q (.bl true) H
theorem op_ne_len (hu : X.A.units + 1 < cLine) : OpR X (compareOp .NotEq) (rNeLen X.K) := by
  intro pins s σ H x y v u Q I rx ry h
  obtain ⟨p, q, xs, ys, rfl, rfl, hp, hq, ne, fin⟩ := h
  cases rx
  cases ry
  obtain ⟨is, ri, pi, _⟩ := I.list hp
  obtain ⟨js, rj, pj, _⟩ := I.list hq
  refine PySem.EqBoolInt.of_rcne (SeqAt.RcNeAt.lists_lengths pi.isList pj.isList ?_ (by omega)) (fin_bl I fin rfl)
  simp only [List.size_toArray, bne_iff_ne]
  rw [← ri.length, ← rj.length]
  exact ne
end
end L2

set_option Elab.async false
set_option linter.all false
set_option maxRecDepth 100000
set_option maxHeartbeats 4000000
namespace L2
open PySem PySem.Spec PyProof.Rows
section
variable {X : Cx}
theorem call_divmod' : CallR X (.builtin "divmod") (fun xs H Q => ∃ i j, xs = [.int i, .int j] ∧ 0 < j ∧ j < 2 ^ 64 ∧ ∀ p, H p = none → Q (.ref p) (upd H p (.tup [.int (i / j), .int (i % j)]))) := by
  intro pins s σ H xs us Q I r h
  obtain ⟨i, j, rfl, h1, h2, q⟩ := h
  obtain ⟨u, w', rfl, ⟨t, rfl⟩, ⟨t', rfl⟩⟩ := vals2 r
  have small : j.natAbs.log2 < 9000 := by
    have a : j.natAbs < 2 ^ 64 := by omega
    have b : j.natAbs ≠ 0 := by omega
    have c := (Nat.log2_lt b).mpr a
    omega
  refine divmod_int (by omega) ?_ (.inl (PyProof.noPylong_of_log2 small))
  rw [Int.fdiv_eq_ediv_of_nonneg i (by omega), Int.fmod_eq_emod_of_nonneg i (by omega)]
  refine ⟨.ref s.heap.objs.size, _, I.laid (o := .tup [.int (i / j), .int (i % j)]) (fun b o e => Heap.get?_push_of_some _ e) (Nat.le_refl _) ⟨?_, [.int (i / j) s.toks, .int (i % j) (s.toks + 1)], .cons ⟨_, rfl⟩ (.cons ⟨_, rfl⟩ .nil), ⟨_, Heap.get?_push_size s.heap rfl, rfl, 0, rfl⟩⟩, rfl, q _ I.fresh⟩
  show 2 ≤ sizeLine
  decide
end
/-- a def that may raise -/
theorem Fun.okO {P : Program} {w : World} {K : PySem.W.Frag} {mg : Str → Option Value} {base : Heap} {x qual : Str} {st : Stmt} {f : Addr} {fd : FuncData} {N ps : List Str} {k : Nat} {sp : Sp} (F : Fun K x qual st f fd) (S : FnScope N ps (defScope st)) (len : ∀ vs H Q E, sp vs H Q E → vs.length = ps.length)
    (hbody : ∀ (cdv : Value) (A : Around) (outer : List Env) (s : Shared) (H : Hp) (vs : List V) (Q : VK) (E : XK), Room k (A.deeper (envOfC qual (defScope st) s.heap.objs.size f cdv)) → sp vs H Q E →
      ∃ t, PSs (cxOf (CXO P w) P w K mg base N qual (defScope st) f cdv A outer s H E) (defBody st) t ∧ t { nx := fun _ H' => Q .non H', rt := Q } (start N vs) H) : FnOk P w K mg base (CXO P w) (k + 1) f fd ps sp := by
  obtain ⟨oc, od, kV, doc, pm, an, cdv, ct, osl, rfl, lk, hcd⟩ := F.ex
  exact fn_of lk hcd S len (hbody cdv)
end L2
namespace K15
open PySem PySem.Spec PyProof.Rows L2
def top (i : Nat) : Stmt := PySem.Challenge.pw_cutmeet_k15_ways.main.body.getD i (.Pass ⟨0, 0, 0, 0⟩)
abbrev sWhole : Stmt := top 8
abbrev sName : Stmt := top 9
abbrev sChkP : Stmt := top 13
abbrev sAmong : Stmt := top 14
abbrev sTie : Stmt := top 15
abbrev sChkT : Stmt := top 16
abbrev sInit : Stmt := inClass (top 17) 0
abbrev sPlaces : Stmt := inClass (top 17) 1
abbrev sMany : Stmt := inClass (top 17) 2
abbrev sTieM : Stmt := inClass (top 17) 3
abbrev sTies : Stmt := inClass (top 17) 4
abbrev sRow : Stmt := top 23
abbrev sDraw : Stmt := top 24
abbrev sLName : Stmt := top 25
abbrev sWeb : Stmt := top 26
abbrev sRef : Stmt := top 29
abbrev sLaw : Stmt := top 30
/-- a def of the text: its object, its binding, how its arguments bind -/
structure Df (K : PySem.W.Frag) (mg : Str → Option Value) (x : Str) (st : Stmt) (ps : List Str) (f : Addr) (fd : FuncData) : Prop where
  fn : Fun K x x st f fd
  mgf : mg x = some (.ref f)
  b : Binds K fd ps []
/-- all tracked but p as it was -/
def But (p : Addr) (H H' : Hp) : Prop := ∀ b o, H b = some o → b ≠ p → H' b = some o
def Row (H : Hp) (p : Addr) : Prop := ∃ a b : Int, H p = some (.lst [.int a, .int b])
def spDraw : Sp := fun vs H Q _ => ∃ (p : Addr) (m : Int), vs = [.ref p, .int m] ∧ Row H p ∧ 0 < m ∧ m < 2 ^ 64 ∧ ∀ (d : Int) (H' : Hp), 0 ≤ d → d < m → Row H' p → But p H H' → Q (.int d) H'
structure Glb (mg : Str → Option Value) : Prop where
  divmod : mg "divmod" = none
  len : mg "len" = none
  all : mg "all" = none
  isinst : mg "isinstance" = none
  str : mg "str" = none
  range : mg "range" = none
  max : mg "max" = none
  min : mg "min" = none
  bool : mg "bool" = none
  list : mg "list" = none
  int : mg "int" = none
  tuple : mg "tuple" = none
  set : mg "set" = none
  sorted : mg "sorted" = none
  longest : ∃ t, mg "LONGEST" = some (.int 8 t)
  places : ∃ t, mg "MOST_PLACES" = some (.int 12 t)
  ties : ∃ t, mg "MOST_TIES" = some (.int 30 t)
section
variable {P : Program} {w : World} {K : PySem.W.Frag} {mg : Str → Option Value} {base : Heap}
theorem scD : FnScope ["_law_row", "_law_many", "_law_digit"] ["_law_row", "_law_many"] (defScope sDraw) := ⟨rfl, rfl, rfl, by decide +kernel, rfl, by decide +kernel, by decide +kernel⟩
theorem ok_draw {f : Addr} {fd : FuncData} (F : Fun K "_law_draw" "_law_draw" sDraw f fd) (T : Glb mg) : FnOk P w K mg base CX0 1 f fd ["_law_row", "_law_many"] spDraw := by
  refine F.ok scD (fun vs H Q E h => ?_) (fun cdv A outer s H vs Q E hr h => ?_)
  · obtain ⟨p, m, rfl, _⟩ := h
    rfl
  · obtain ⟨p, m, rfl, ⟨a, b, hp⟩, m0, m1, k⟩ := h
    refine ⟨_, pss_cons (ps_if (pt_cmpR op_gt (pe_ix ix_list (pv 0) pe_int (fun _ _ => rfl)) pe_int (nomark _))
      (pss_cons (ps_asg (pe_callB call_divmod' (by rfl) T.divmod PyProof.Rows.boot_divmod (pa_cons (pe_ix ix_list (pv 0) pe_int (fun _ _ => rfl)) (pa_cons (pv 1) pa_nil)))
        (pg_tup rfl (pgs_cons (pg_sub (pv 0) pe_int set_list) (pgs_cons (pg_name (i := 2) scD.nd rfl (Or.inl rfl)) pgs_nil)))) (pss_one (ps_ret (pv 2)))) pss_nil)
      (pss_cons (ps_if (pt_cmpR op_lt (pe_ix ix_list (pv 0) pe_int (fun _ _ => rfl)) pe_int (nomark _)) (pss_one (ps_ret pe_int)) pss_nil)
      (pss_cons (ps_asg (pe_op op_mod (pe_op op_add (pe_op op_mul (pe_ix ix_list (pv 0) pe_int (fun _ _ => rfl)) pe_int) pe_int) pe_int) (pg_sub (pv 0) pe_int set_list))
      (pss_one (ps_ret (pe_op op_mod (pe_op op_fdiv (pe_ix ix_list (pv 0) pe_int (fun _ _ => rfl)) pe_int) (pv 1)))))), ?_⟩
    refine ⟨_, rfl, p, _, _, _, rfl, rfl, SqL.of hp, atI_nat (j := 0) rfl, ?_⟩
    refine ⟨_, _, rfl, rfl, _, rfl, ?_⟩
    refine ite2 (fun ha => ?_) (fun ha => ?_)
    · refine ⟨_, rfl, p, _, _, _, rfl, rfl, SqL.of hp, atI_nat (j := 0) rfl, _, rfl, a, m, rfl, m0, m1, fun t ht => ?_⟩
      have npt : p ≠ t := ne_of_none hp ht
      refine ⟨t, _, rfl, SqT.of upd_same, rfl, _, _, rfl, _, rfl, p, _, _, 0, rfl, rfl, (by rw [upd_ne npt]; exact hp), rfl, ?_⟩
      refine ⟨_, _, rfl, rfl, _, rfl, ?_⟩
      refine k _ _ (Int.emod_nonneg _ (by omega)) (Int.emod_lt_of_pos _ m0) ⟨_, _, upd_same⟩ fun c o e hc => ?_
      rw [upd_ne hc, upd_ne (ne_of_none e ht)]
      exact e
    · refine ⟨_, rfl, p, _, _, _, rfl, rfl, SqL.of hp, atI_nat (j := 1) rfl, ?_⟩
      refine ⟨_, _, rfl, rfl, _, rfl, ?_⟩
      refine ite2 (fun hb => ?_) (fun hb => ?_)
      · exact k 0 H (Int.le_refl _) m0 ⟨_, _, hp⟩ fun c o e _ => e
      · refine ⟨_, rfl, p, _, _, _, rfl, rfl, SqL.of hp, atI_nat (j := 1) rfl, _, _, rfl, rfl, .inr ⟨by decide, by decide⟩, _, _, rfl, rfl, _, _, rfl, rfl, (by show (0 : Int) < 2147483647; decide), ?_⟩
        refine ⟨_, rfl, p, _, _, 1, rfl, rfl, hp, rfl, ?_⟩
        refine ⟨_, rfl, p, _, _, _, rfl, rfl, SqL.of upd_same, atI_nat (j := 1) rfl, _, _, rfl, rfl, ⟨by decide, by decide⟩, _, rfl, _, _, rfl, rfl, m0, ?_⟩
        refine k _ _ (Int.emod_nonneg _ (by omega)) (Int.emod_lt_of_pos _ m0) ⟨_, _, upd_same⟩ fun c o e hc => ?_
        rw [upd_ne hc]
        exact e
/-! ### the row of a cell -/
def spRow : Sp := fun vs H Q _ => ∃ (a : Addr) (ns : List Int) (k : Nat), vs = [.ref a, .int k] ∧ SqL K H a (ns.map V.int) ∧ ns.length ≤ 63 ∧ ∀ (p : Addr) (H' : Hp), H p = none → Row H' p → Same H H' → Q (.ref p) H'
theorem scR : FnScope ["_law_script", "_law_k", "_law_cell", "_law_mixed"] ["_law_script", "_law_k"] (defScope sRow) := ⟨rfl, rfl, rfl, by decide +kernel, rfl, by decide +kernel, by decide +kernel⟩
theorem row_end {H : Hp} {Q : VK} (k : ∀ (p : Addr) (H' : Hp), H p = none → Row H' p → Same H H' → Q (.ref p) H') (a b : Int) (p : Addr) (hp : H p = none) : Q (.ref p) (upd H p (.lst [.int a, .int b])) :=
  k p _ hp ⟨a, b, upd_same⟩ fun c o e => by rw [upd_ne (ne_of_none e hp)]; exact e
theorem ok_row {f : Addr} {fd : FuncData} (F : Fun K "_law_row_at" "_law_row_at" sRow f fd) (T : Glb mg) : FnOk P w K mg base CX0 1 f fd ["_law_script", "_law_k"] (spRow (K := K)) := by
  refine F.ok scR (fun vs H Q E h => ?_) (fun cdv A outer s H vs Q E hr h => ?_)
  · obtain ⟨a, ns, k, rfl, _⟩ := h
    rfl
  · obtain ⟨a, ns, n, rfl, hS, hl, k⟩ := h
    refine ⟨_, pss_cons (ps_set (i := 2) scR.nd rfl (Or.inl rfl) pe_int)
      (pss_cons (ps_if (pt_cmpR op_lt (pv 1) (pe_callB call_len_seq (by rfl) T.len PySem.boot_len (pa_cons (pv 0) pa_nil)) (nomark _)) (pss_one (ps_set (i := 2) scR.nd rfl (Or.inl rfl) (pe_ix ix_list (pv 0) (pv 1) (fun _ _ => rfl)))) pss_nil)
      (pss_cons (ps_set (i := 3) scR.nd rfl (Or.inl rfl) (pe_op op_mod (pe_op op_add (pe_op op_mul (pv 2) pe_int) (pe_op op_mul pe_int (pe_op op_add (pv 1) pe_int))) pe_int))
      (pss_cons (ps_if (pt_cmpR op_lt (pv 2) (pe_op op_pow pe_int pe_int) (nomark _)) (pss_one (ps_ret (pe_lst (pa_cons pe_int (pa_cons (pv 3) pa_nil))))) pss_nil)
      (pss_cons (ps_if (pt_cmpR op_eq (pe_op op_mod (pv 2) pe_int) pe_int (nomark _)) (pss_one (ps_set (i := 3) scR.nd rfl (Or.inl rfl) (pe_un un_neg pe_int))) pss_nil)
      (pss_one (ps_ret (pe_lst (pa_cons (pe_op op_fdiv (pe_op op_sub (pv 2) (pe_op op_pow pe_int pe_int)) pe_int) (pa_cons (pv 3) pa_nil))))))))), ?_⟩
    refine ⟨_, rfl, _, rfl, a, _, rfl, .inl hS, _, _, rfl, rfl, _, rfl, ?_⟩
    refine ite2 (fun hlt => ?_) (fun hlt => ?_)
    · have hlt' : n < ns.length := by simpa using hlt
      refine ⟨_, rfl, _, rfl, a, _, _, _, rfl, rfl, hS, atI_nat (j := n) (v := .int ns[n]) (by simp [hlt']), ?_⟩
      refine ⟨_, rfl, _, _, rfl, rfl, .inr ⟨by decide, by decide⟩, _, rfl, _, _, rfl, rfl, _, _, rfl, rfl, .inl ⟨by decide, by decide⟩, _, _, rfl, rfl, _, _, rfl, rfl, (by show (0 : Int) < 2147483647; decide), ?_⟩
      refine ⟨_, rfl, _, _, rfl, rfl, ⟨by decide, by decide, by decide⟩, _, _, rfl, rfl, _, rfl, ?_⟩
      refine ite2 (fun _ => ?_) (fun _ => ?_)
      · exact ⟨_, rfl, (by show 2 ≤ sizeLine; decide), row_end k _ _⟩
      · refine ⟨_, rfl, _, _, rfl, rfl, (by show (0 : Int) < 2; decide), rfl, _, rfl, ?_⟩
        refine ite2 (fun _ => ?_) (fun _ => ?_)
        · refine ⟨_, rfl, _, rfl, _, _, rfl, rfl, ⟨by decide, by decide, by decide⟩, _, _, rfl, rfl, _, _, rfl, rfl, ⟨by decide, by decide⟩, _, rfl, (by show 2 ≤ sizeLine; decide), row_end k _ _⟩
        · refine ⟨_, rfl, _, _, rfl, rfl, ⟨by decide, by decide, by decide⟩, _, _, rfl, rfl, _, _, rfl, rfl, ⟨by decide, by decide⟩, _, rfl, (by show 2 ≤ sizeLine; decide), row_end k _ _⟩
    · refine ⟨_, rfl, _, _, rfl, rfl, .inr ⟨by decide, by decide⟩, _, rfl, _, _, rfl, rfl, _, _, rfl, rfl, .inl ⟨by decide, by decide⟩, _, _, rfl, rfl, _, _, rfl, rfl, (by show (0 : Int) < 2147483647; decide), ?_⟩
      refine ⟨_, rfl, _, _, rfl, rfl, ⟨by decide, by decide, by decide⟩, _, _, rfl, rfl, _, rfl, ?_⟩
      refine ite2 (fun _ => ?_) (fun _ => ?_)
      · exact ⟨_, rfl, (by show 2 ≤ sizeLine; decide), row_end k _ _⟩
      · refine ⟨_, rfl, _, _, rfl, rfl, (by show (0 : Int) < 2; decide), rfl, _, rfl, ?_⟩
        refine ite2 (fun _ => ?_) (fun _ => ?_)
        · refine ⟨_, rfl, _, rfl, _, _, rfl, rfl, ⟨by decide, by decide, by decide⟩, _, _, rfl, rfl, _, _, rfl, rfl, ⟨by decide, by decide⟩, _, rfl, (by show 2 ≤ sizeLine; decide), row_end k _ _⟩
        · refine ⟨_, rfl, _, _, rfl, rfl, ⟨by decide, by decide, by decide⟩, _, _, rfl, rfl, _, _, rfl, rfl, ⟨by decide, by decide⟩, _, rfl, (by show 2 ≤ sizeLine; decide), row_end k _ _⟩
/-! ### names -/
def lo (c : Nat) : Bool := !decide ((⟨#[c]⟩ : Str).cps.toList < ("a" : Str).cps.toList)
def hi (c : Nat) : Bool := !decide (("z" : Str).cps.toList < (⟨#[c]⟩ : Str).cps.toList)
def nm (z : Str) : Bool := (decide (1 ≤ z.length) && decide (z.length ≤ 8)) && (z.cps.toList.map fun c => lo c && hi c).all id
/-- the loop over a text's signs, each a bool -/
theorem signs_loop {K : PySem.W.Frag} {z : Str} {H : Hp} {Q : VK} {te : TE} {σ : L2.St} {x : Str} (hz : z.cps.size ≤ sizeLine) (f : Nat → Bool)
    (he : ∀ (c : Nat) (H : Hp) (Q : VK), Q (.bl (f c)) H → te [some (V.str ⟨#[c]⟩)] H Q) (k : ∀ D, H D = none → Q (.ref D) (upd H D (.lst ((z.cps.toList.map f).map V.bl)))) :
    lcLoop [x] [] (gName 0) tYes te σ Q (Its z) H := by
  refine ⟨fun i m ys H2 => H2 = H ∧ i ≤ z.cps.size ∧ m = z.cps.size - i ∧ ys = ((z.cps.toList.take i).map f).map V.bl, ⟨z.cps.size, rfl, Nat.zero_le _, rfl, rfl⟩, ?_⟩
  rintro i m ys H2 ⟨rfl, hi, rfl, rfl⟩
  refine ⟨by simp; omega, ?_⟩
  by_cases h : i < z.cps.size
  · refine .inr ⟨h, fun x H3 hy => ?_⟩
    obtain ⟨rfl, c, hc, rfl⟩ := hy
    simp only [tYes, gName, if_true]
    refine he c _ _ ⟨z.cps.size - (i + 1), by omega, rfl, h, rfl, ?_⟩
    have e : (z.cps.toList.take (i + 1)) = z.cps.toList.take i ++ [c] := by
      rw [List.take_add_one]
      have : z.cps.toList[i]? = some c := by simpa using hc
      rw [this]; rfl
    rw [e]; simp
  · have e : i = z.cps.size := by omega
    subst e
    refine .inl ⟨rfl, fun D hD => ?_⟩
    have q := k D hD
    rw [List.take_of_length_le (by simp)]
    exact q
def spName : Sp := fun vs H Q _ => (∃ z : Str, vs = [.str z] ∧ z.length ≤ 1000 ∧ ∀ H', Same H H' → Q (.bl (nm z)) H') ∨ ∃ x t, vs = [x] ∧ TyOf K H x t ∧ PySem.W.kitOne K t (.type "str") = some false ∧ Q (.bl false) H
theorem scN : FnScope ["thing"] ["thing"] (defScope sName) := ⟨rfl, rfl, rfl, by decide +kernel, rfl, by decide +kernel, by decide +kernel⟩
theorem ok_name {f : Addr} {fd : FuncData} (F : Fun K "is_name" "is_name" sName f fd) (T : Glb mg) : FnOk P w K mg base CX0 1 f fd ["thing"] (spName (K := K)) := by
  refine F.ok scN (fun vs H Q E h => ?_) (fun cdv A outer s H vs Q E hr h => ?_)
  · rcases h with ⟨z, rfl, _⟩ | ⟨x, t, rfl, _⟩ <;> rfl
  · obtain ⟨t8, h8⟩ := T.longest
    refine ⟨_, pss_cons (ps_if (PW.pt (pw_or (pt_not (pt_val (pe_callB (call_isinst (T := "str")) (by rfl) T.isinst PyProof.Rows.boot_isinstance (pa_cons (pv 0) (pa_cons (pe_bltn (v := .ty "str") rfl T.str PyProof.Rows.boot_str rfl) pa_nil))) (fun _ => rfl)))
        (pw_or1 (pt_not (pt_chain op_le op_le pe_int (pe_callB call_len_str (by rfl) T.len PySem.boot_len (pa_cons (pv 0) pa_nil)) (pe_glob (v := .int 8) rfl h8 ⟨_, rfl⟩)))))) (pss_one (ps_ret pe_bl)) pss_nil)
      (pss_one (ps_ret (pe_callB (call_all rfl) (by rfl) T.all PyProof.Rows.boot_all (pa_cons (pe_lc ["sign"] [] rfl (compSc (osc := (defScope sName).names) (N := ["thing"]) rfl rfl (by decide +kernel)) (gk_name (by decide)) (pi_str (pv 0)) (fun _ _ _ => pg_name (i := 0) (show (["sign"] : List Str).Nodup by decide +kernel) rfl (Or.inl rfl)) (fun _ _ _ => pifs_nil)
        (fun _ _ _ => pe_chain op_le_str op_le_str pe_str (pv 0) pe_str)) pa_nil)))), ?_⟩
    rcases h with ⟨z, rfl, hz, k⟩ | ⟨x, t, rfl, ty, ki, k⟩
    · have hzs : z.length ≤ sizeLine := Nat.le_trans hz (by decide)
      refine ⟨_, rfl, _, _, true, rfl, .str z, rfl, _, rfl, ?_⟩
      refine iteF ?_
      refine ⟨_, rfl, z, rfl, hzs, _, _, rfl, rfl, _, rfl, ?_⟩
      refine ite2 (fun h1 => ?_) (fun h1 => ?_)
      · refine ⟨_, _, rfl, rfl, _, rfl, ?_⟩
        refine ite2 (fun h2 => ?_) (fun h2 => ?_)
        · have e : nm z = false := by
            have : ¬ z.length ≤ 8 := by simp at h2; omega
            simp [nm, this]
          exact e ▸ k H (Same.refl _)
        · have e : nm z = (z.cps.toList.map fun c => lo c && hi c).all id := by
            have a1 : 1 ≤ z.length := by simp at h1; omega
            have a2 : z.length ≤ 8 := by simp at h2; omega
            unfold nm
            rw [decide_eq_true a1, decide_eq_true a2]; rfl
          refine ⟨_, rfl, z, rfl, signs_loop (K := K) hzs (fun c => lo c && hi c) (fun c H Q q => ?_) (fun D hD => ⟨D, _, rfl, SqL.of upd_same, ?_⟩)⟩
          · refine ⟨_, rfl, _, _, rfl, rfl, _, rfl, ?_⟩
            have q' : Q (.bl (lo c && hi c)) H := q
            refine ite2 (fun h => ?_) (fun h => ?_)
            · refine ⟨_, _, rfl, rfl, ?_⟩
              have e1 : lo c = true := h
              rw [e1, Bool.true_and] at q'
              exact q'
            · have e1 : lo c = false := by simpa using (show ¬ lo c = true from h)
              rw [e1, Bool.false_and] at q'
              exact q'
          · exact e ▸ k _ fun c o q => by rw [upd_ne (ne_of_none q hD)]; exact q
      · refine ⟨_, rfl, ?_⟩
        have e : nm z = false := by
          have : ¬ 1 ≤ z.length := by simp at h1; omega
          simp [nm, this]
        exact iteT (e ▸ k H (Same.refl _))
    · refine ⟨_, rfl, _, _, false, rfl, ty, ki, _, rfl, ?_⟩
      exact iteT k
/-! ### a drawn text -/
theorem But.refl (p : Addr) (H : Hp) : But p H H := fun _ _ h _ => h
theorem But.trans {p : Addr} {H H1 H2 : Hp} (a : But p H H1) (b : But p H1 H2) : But p H H2 := fun c o h n => b c o (a c o h n) n
theorem But.laid {p q : Addr} {H H1 : Hp} {o : HO} (a : But p H H1) (hq : H1 q = none) (hp : Row H1 p) : But p H (upd H1 q o) ∧ Row (upd H1 q o) p := by
  obtain ⟨x, y, hp⟩ := hp
  exact ⟨fun c u h n => by rw [upd_ne (ne_of_none (a c u h n) hq)]; exact a c u h n, x, y, by rw [upd_ne (ne_of_none hp hq)]; exact hp⟩
theorem letters26 : ("abcdefghijklmnopqrstuvwxyz" : Str).length = 26 := by decide +kernel
theorem lit_ix {z : Str} {d : Int} (h0 : 0 ≤ d) (h1 : d < (z.length : Int)) : ∃ c, atI z.cps.toList d = some c := by
  obtain ⟨n, rfl⟩ := Int.eq_ofNat_of_zero_le h0
  have hn : n < z.cps.toList.length := by
    have : n < z.length := by omega
    rw [Array.length_toList]; exact this
  exact ⟨z.cps.toList[n], atI_nat (by simp [hn])⟩
theorem same_upd {H : Hp} {a : Addr} {o : HO} (h : H a = none) : Same H (upd H a o) := fun b u e => by rw [upd_ne (ne_of_none e h)]; exact e
end
end K15

set_option Elab.async false
set_option linter.all false
set_option maxRecDepth 100000
set_option maxHeartbeats 4000000
namespace K15
open PySem PySem.Spec PyProof.Rows L2
section
variable {P : Program} {w : World} {K : PySem.W.Frag} {mg : Str → Option Value} {base : Heap}
def spWhole : Sp := fun vs H Q _ => ∃ x t b1 b2, vs = [x] ∧ TyOf K H x t ∧ PySem.W.kitOne K t (.type "int") = some b1 ∧ PySem.W.kitOne K t (.type "bool") = some b2 ∧ Q (.bl (b1 && !b2)) H
theorem scWh : FnScope ["thing"] ["thing"] (defScope sWhole) := ⟨rfl, rfl, rfl, by decide +kernel, rfl, by decide +kernel, by decide +kernel⟩
theorem ok_whole {f : Addr} {fd : FuncData} (F : Fun K "is_whole" "is_whole" sWhole f fd) (T : Glb mg) : FnOk P w K mg base CX0 1 f fd ["thing"] (spWhole (K := K)) := by
  refine F.ok scWh (fun vs H Q E h => ?_) (fun cdv A outer s H vs Q E hr h => ?_)
  · obtain ⟨x, t, b1, b2, rfl, _⟩ := h
    rfl
  · obtain ⟨x, t, b1, b2, rfl, ty, e1, e2, k⟩ := h
    refine ⟨_, pss_one (ps_ret (pe_and (pe_callB (call_isinst (T := "int")) (by rfl) T.isinst PyProof.Rows.boot_isinstance (pa_cons (pv 0) (pa_cons (pe_bltn (v := .ty "int") rfl T.int PyProof.Rows.boot_int rfl) pa_nil)))
      (pe_one (pe_not (pe_callB (call_isinst (T := "bool")) (by rfl) T.isinst PyProof.Rows.boot_isinstance (pa_cons (pv 0) (pa_cons (pe_bltn (v := .ty "bool") rfl T.bool PyProof.Rows.boot_bool rfl) pa_nil))))))), ?_⟩
    refine ⟨_, rfl, x, t, b1, rfl, ty, e1, _, rfl, ?_⟩
    cases b1
    · exact iteF k
    · exact iteT ⟨_, rfl, x, t, b2, rfl, ty, e2, _, rfl, k⟩
/-! ### the places -/
structure GoodP (ns : List Str) : Prop where
  one : 1 ≤ ns.length
  few : ns.length ≤ 12
  nms : ∀ z ∈ ns, nm z = true
  nd : ns.Nodup
theorem nm_len {z : Str} (h : nm z = true) : z.length ≤ 8 := by
  unfold nm at h
  simp only [Bool.and_eq_true, decide_eq_true_eq] at h
  exact h.1.2
def spChkP : Sp := fun vs H Q _ => ∃ (a : Addr) (ns : List Str), vs = [.ref a] ∧ H a = some (.lst (ns.map V.str)) ∧ GoodP ns ∧ ∀ H', Same H H' → Q .non H'
theorem scCP : FnScope ["places"] ["places"] (defScope sChkP) := ⟨rfl, rfl, rfl, by decide +kernel, rfl, by decide +kernel, by decide +kernel⟩
theorem ok_chkP {f fN : Addr} {fd fdN : FuncData} (F : Fun K "check_places" "check_places" sChkP f fd) (DN : Df K mg "is_name" sName ["thing"] fN fdN) (T : Glb mg) : FnOk P w K mg base CX0 2 f fd ["places"] spChkP := by
  have GN : FnOk P w K mg base CX0 1 fN fdN ["thing"] (spName (K := K)) := ok_name DN.fn T
  refine F.ok scCP (fun vs H Q E h => ?_) (fun cdv A outer s H vs Q E hr h => ?_)
  · obtain ⟨a, ns, rfl, _⟩ := h
    rfl
  · obtain ⟨a, ns, rfl, ha, g, k⟩ := h
    obtain ⟨t12, h12⟩ := T.places
    refine ⟨_, pss_cons (ps_if (PW.pt (pw_or (pt_not (pt_val (pe_callB (call_isinst (T := "list")) (by rfl) T.isinst PyProof.Rows.boot_isinstance (pa_cons (pv 0) (pa_cons (pe_bltn (v := .ty "list") rfl T.list PyProof.Rows.boot_list rfl) pa_nil))) (fun _ => rfl)))
        (pw_or1 (pt_not (pt_chain op_le op_le pe_int (pe_callB call_len_seq (by rfl) T.len PySem.boot_len (pa_cons (pv 0) pa_nil)) (pe_glob (v := .int 12) rfl h12 ⟨_, rfl⟩)))))) (pss_one ps_never) pss_nil)
      (pss_cons (ps_if (pt_not (pt_val (pe_callB (call_all rfl) (by rfl) T.all PyProof.Rows.boot_all (pa_cons (pe_lc ["place"] [] rfl (compSc (osc := (defScope sChkP).names) (N := ["places"]) rfl rfl (by decide +kernel)) (gk_name (by decide)) (pi_list (pv 0)) (fun _ _ _ => pg_name (i := 0) (show (["place"] : List Str).Nodup by decide +kernel) rfl (Or.inl rfl)) (fun _ _ _ => pifs_nil)
          (fun _ _ _ => pe_call GN hr rfl DN.mgf DN.fn.kp DN.b .nil pass0 (pa_cons (pv 0) pa_nil))) pa_nil)) (fun _ => rfl))) (pss_one ps_never) pss_nil)
      (pss_one (ps_if (pt_cmpR op_lt (pe_lenset rfl (pv 0) rfl T.len PySem.boot_len rfl T.set PyProof.Rows.boot_set) (pe_callB call_len_seq (by rfl) T.len PySem.boot_len (pa_cons (pv 0) pa_nil)) (nomark _)) (pss_one ps_never) pss_nil))), ?_⟩
    refine ⟨_, rfl, _, _, true, rfl, .lst ha, rfl, _, rfl, ?_⟩
    refine iteF ?_
    have le : (ns.map V.str).length = ns.length := List.length_map ..
    refine ⟨_, rfl, a, _, rfl, .inl (SqL.of ha), _, _, rfl, rfl, _, rfl, ?_⟩
    rw [le]
    have g1 := g.one
    have g2 := g.few
    refine ite2 (fun _ => ?_) (fun z => absurd z (by simp; omega))
    refine ⟨_, _, rfl, rfl, _, rfl, ?_⟩
    refine ite2 (fun z => absurd z (by simp; omega)) (fun _ => ?_)
    refine ⟨_, rfl, a, rfl, ⟨_, SqL.of ha⟩, lc_list (K := K) (xs := ns.map V.str) (fun i ys H2 => Same H H2 ∧ ys = List.replicate i (V.bl true)) ⟨Same.refl _, rfl⟩ ?_ ?_ ?_ ?_⟩
    · rintro i ys H2 hi ⟨_, rfl⟩
      rw [List.length_replicate]
      rw [le] at hi
      exact Nat.le_trans hi (Nat.le_trans g.few (by decide))
    · rintro i ys H2 _ ⟨s2, _⟩
      exact SqL.of (s2 _ _ ha)
    · rintro i x ys H2 R hx ⟨s2, rfl⟩ kR
      rw [List.getElem?_map] at hx
      obtain ⟨z, ez, rfl⟩ := Option.map_eq_some_iff.mp hx
      have gz := g.nms z (List.mem_of_getElem? ez)
      simp only [tYes, gName, if_true]
      refine ⟨_, rfl, .inl ⟨z, rfl, Nat.le_trans (nm_len gz) (by decide), fun H3 s3 => ?_⟩⟩
      rw [gz]
      exact kR _ _ ⟨s2.trans s3, by rw [List.replicate_succ']⟩
    · rintro ys H2 ⟨s2, rfl⟩ D hD
      rw [le]
      have e : List.replicate ns.length (V.bl true) = (List.replicate ns.length true).map V.bl := by simp
      refine ⟨D, List.replicate ns.length true, rfl, (by rw [e]; exact SqL.of upd_same), _, rfl, ?_⟩
      have e2 : (List.replicate ns.length true).all id = true := by simp
      rw [e2]
      refine iteF ?_
      have s3 : Same H (upd H2 D (.lst (List.replicate ns.length (V.bl true)))) := s2.trans (same_upd hD)
      refine ⟨_, rfl, a, ns, rfl, SqL.of (s3 _ _ ha), (by have := g.few; show ns.length + 1 < scanBound; exact Nat.lt_of_le_of_lt (Nat.succ_le_succ this) (by decide)), _, rfl, a, _, rfl, .inl (SqL.of (s3 _ _ ha)), _, _, rfl, rfl, _, rfl, ?_⟩
      rw [dist_nd g.nd, le]
      refine ite2 (fun z => absurd z (by simp)) (fun _ => ?_)
      exact k _ s3
end
end K15

set_option Elab.async false
set_option linter.all false
set_option maxRecDepth 100000
set_option maxHeartbeats 4000000
namespace K15
open PySem PySem.Spec PyProof.Rows L2
theorem inV_str (z : Str) (ns : List Str) : inV (.str z) (ns.map V.str) = decide (z ∈ ns) := by
  unfold inV
  rw [List.any_map, Bool.eq_iff_iff, decide_eq_true_iff]
  simp only [List.any_eq_true, Function.comp, eqV, beq_iff_eq]
  exact ⟨fun ⟨y, h, e⟩ => e ▸ h, fun h => ⟨z, h, rfl⟩⟩
theorem flat_strs (ns : List Str) : (ns.map V.str).all flatV = true := by
  rw [List.all_map, List.all_eq_true]
  intro _ _
  rfl
section
variable {P : Program} {w : World} {K : PySem.W.Frag} {mg : Str → Option Value} {base : Heap}
def spAmong : Sp := fun vs H Q _ => (∃ (a : Addr) (ns : List Str) (z : Str), vs = [.ref a, .str z] ∧ SqL K H a (ns.map V.str) ∧ Q (.bl (decide (z ∈ ns))) H) ∨ ∃ (a : Addr) (x : V) (t : Value), vs = [.ref a, x] ∧ TyOf K H x t ∧ PySem.W.kitOne K t (.type "str") = some false ∧ Q (.bl false) H
theorem scAm : FnScope ["places", "thing"] ["places", "thing"] (defScope sAmong) := ⟨rfl, rfl, rfl, by decide +kernel, rfl, by decide +kernel, by decide +kernel⟩
theorem ok_among {f : Addr} {fd : FuncData} (F : Fun K "is_among" "is_among" sAmong f fd) (T : Glb mg) : FnOk P w K mg base CX0 1 f fd ["places", "thing"] (spAmong (K := K)) := by
  refine F.ok scAm (fun vs H Q E h => ?_) (fun cdv A outer s H vs Q E hr h => ?_)
  · rcases h with ⟨a, ns, z, rfl, _⟩ | ⟨a, x, t, rfl, _⟩ <;> rfl
  · refine ⟨_, pss_one (ps_ret (pe_and (pe_callB (call_isinst (T := "str")) (by rfl) T.isinst PyProof.Rows.boot_isinstance (pa_cons (pv 1) (pa_cons (pe_bltn (v := .ty "str") rfl T.str PyProof.Rows.boot_str rfl) pa_nil))) (pe_one (pe_cmpR op_in_seq (pv 1) (pv 0) rfl)))), ?_⟩
    rcases h with ⟨a, ns, z, rfl, ha, k⟩ | ⟨a, x, t, rfl, ty, e, k⟩
    · refine ⟨_, rfl, _, _, true, rfl, .str z, rfl, _, rfl, ?_⟩
      refine iteT ⟨_, rfl, _, rfl, a, _, rfl, .inl ha, rfl, flat_strs ns, ?_⟩
      rw [inV_str]
      exact k
    · refine ⟨_, rfl, x, t, false, rfl, ty, e, _, rfl, ?_⟩
      exact iteF k
def spTie : Sp := fun vs H Q _ => ∃ (a : Addr) (ns : List Str) (t : Addr) (x y : Str), vs = [.ref a, .ref t] ∧ SqL K H a (ns.map V.str) ∧ H t = some (.tup [.str x, .str y]) ∧ Q (.bl (decide (x ∈ ns) && decide (y ∈ ns))) H
theorem scTi : FnScope ["places", "thing"] ["places", "thing"] (defScope sTie) := ⟨rfl, rfl, rfl, by decide +kernel, rfl, by decide +kernel, by decide +kernel⟩
theorem ok_tie {f fA : Addr} {fd fdA : FuncData} (F : Fun K "is_tie" "is_tie" sTie f fd) (DA : Df K mg "is_among" sAmong ["places", "thing"] fA fdA) (T : Glb mg) : FnOk P w K mg base CX0 2 f fd ["places", "thing"] (spTie (K := K)) := by
  have GA : FnOk P w K mg base CX0 1 fA fdA ["places", "thing"] (spAmong (K := K)) := ok_among DA.fn T
  refine F.ok scTi (fun vs H Q E h => ?_) (fun cdv A outer s H vs Q E hr h => ?_)
  · obtain ⟨a, ns, t, x, y, rfl, _⟩ := h
    rfl
  · obtain ⟨a, ns, t, x, y, rfl, ha, ht, k⟩ := h
    refine ⟨_, pss_cons (ps_if (PW.pt (pw_or (pt_not (pt_val (pe_callB (call_isinst (T := "tuple")) (by rfl) T.isinst PyProof.Rows.boot_isinstance (pa_cons (pv 1) (pa_cons (pe_bltn (v := .ty "tuple") rfl T.tuple PyProof.Rows.boot_tuple rfl) pa_nil))) (fun _ => rfl)))
        (pw_or1 (pt_cmpR op_ne (pe_callB call_len_seq (by rfl) T.len PySem.boot_len (pa_cons (pv 1) pa_nil)) pe_int (nomark _))))) (pss_one (ps_ret pe_bl)) pss_nil)
      (pss_one (ps_ret (pe_and (pe_call GA hr rfl DA.mgf DA.fn.kp DA.b .nil pass0 (pa_cons (pv 0) (pa_cons (pe_ix ix_tup (pv 1) pe_int (fun _ _ => rfl)) pa_nil))) (pe_one (pe_call GA hr rfl DA.mgf DA.fn.kp DA.b .nil pass0 (pa_cons (pv 0) (pa_cons (pe_ix ix_tup (pv 1) pe_int (fun _ _ => rfl)) pa_nil))))))), ?_⟩
    refine ⟨_, rfl, _, _, true, rfl, .tup ht, rfl, _, rfl, ?_⟩
    refine iteF ⟨_, rfl, t, _, rfl, .inr (SqT.of ht), rfl, _, rfl, ?_⟩
    refine iteF ?_
    refine ⟨_, rfl, _, rfl, t, _, _, _, rfl, rfl, SqT.of ht, atI_nat (j := 0) rfl, .inl ⟨a, ns, x, rfl, ha, _, rfl, ?_⟩⟩
    refine ite2 (fun e => ?_) (fun e => ?_)
    · refine ⟨_, rfl, _, rfl, t, _, _, _, rfl, rfl, SqT.of ht, atI_nat (j := 1) rfl, .inl ⟨a, ns, y, rfl, ha, ?_⟩⟩
      rw [e, Bool.true_and] at k
      exact k
    · rw [Bool.eq_false_iff.mpr e, Bool.false_and] at k
      exact k
/-! ### ties -/
/-- the tuples at ts are these pairs -/
def TiesAt (H : Hp) : List Addr → List (Str × Str) → Prop := Paired fun t p => H t = some (.tup [.str p.1, .str p.2])
def InP (ns : List Str) (ps : List (Str × Str)) : Prop := ∀ p ∈ ps, p.1 ∈ ns ∧ p.2 ∈ ns
theorem TiesAt.mono {H H' : Hp} {ts : List Addr} {ps : List (Str × Str)} (h : TiesAt H ts ps) (k : ∀ t xs, H t = some (.tup xs) → H' t = some (.tup xs)) : TiesAt H' ts ps := Paired.mapP h fun t p e => k t _ e
theorem TiesAt.same {H H' : Hp} {ts : List Addr} {ps : List (Str × Str)} (h : TiesAt H ts ps) (s : Same H H') : TiesAt H' ts ps := h.mono fun t xs e => s t _ e
theorem TiesAt.but {p : Addr} {H H' : Hp} {ts : List Addr} {ps : List (Str × Str)} (h : TiesAt H ts ps) (s : But p H H') (np : ∀ xs, H p ≠ some (.tup xs)) : TiesAt H' ts ps := h.mono fun t xs e => s t _ e fun z => np xs (z ▸ e)
theorem TiesAt.len {H : Hp} {ts : List Addr} {ps : List (Str × Str)} (h : TiesAt H ts ps) : ts.length = ps.length := Paired.length h
theorem TiesAt.get {H : Hp} : ∀ {ts : List Addr} {ps : List (Str × Str)} {i : Nat} {t : Addr}, TiesAt H ts ps → ts[i]? = some t → ∃ p, ps[i]? = some p ∧ H t = some (.tup [.str p.1, .str p.2])
  | _, _, _, _, .nil, e => by simp at e
  | _, _, 0, _, .cons r _, e => by simp at e; subst e; exact ⟨_, rfl, r⟩
  | _, _, i + 1, t, .cons _ h, e => by
    obtain ⟨p, h1, h2⟩ := TiesAt.get (i := i) (t := t) h (by simpa using e)
    exact ⟨p, by simpa using h1, h2⟩
theorem TiesAt.snoc {H : Hp} {ts : List Addr} {ps : List (Str × Str)} {t : Addr} {p : Str × Str} (h : TiesAt H ts ps) (e : H t = some (.tup [.str p.1, .str p.2])) : TiesAt H (ts ++ [t]) (ps ++ [p]) := Paired.snoc h e
def spChkT : Sp := fun vs H Q _ => ∃ (a b : Addr) (ns : List Str) (ts : List Addr) (ps : List (Str × Str)), vs = [.ref a, .ref b] ∧ H a = some (.lst (ns.map V.str)) ∧ H b = some (.lst (ts.map V.ref)) ∧ TiesAt H ts ps ∧ InP ns ps ∧ ps.length ≤ 30 ∧ ∀ H', Same H H' → Q .non H'
theorem scCT : FnScope ["places", "ties"] ["places", "ties"] (defScope sChkT) := ⟨rfl, rfl, rfl, by decide +kernel, rfl, by decide +kernel, by decide +kernel⟩
theorem ok_chkT {f fA fT : Addr} {fd fdA fdT : FuncData} (F : Fun K "check_ties" "check_ties" sChkT f fd) (DA : Df K mg "is_among" sAmong ["places", "thing"] fA fdA) (DT : Df K mg "is_tie" sTie ["places", "thing"] fT fdT) (T : Glb mg) : FnOk P w K mg base CX0 3 f fd ["places", "ties"] spChkT := by
  have GT : FnOk P w K mg base CX0 2 fT fdT ["places", "thing"] (spTie (K := K)) := ok_tie DT.fn DA T
  refine F.ok scCT (fun vs H Q E h => ?_) (fun cdv A outer s H vs Q E hr h => ?_)
  · obtain ⟨a, b, ns, ts, ps, rfl, _⟩ := h
    rfl
  · obtain ⟨a, b, ns, ts, ps, rfl, ha, hb, hT, hI, few, k⟩ := h
    obtain ⟨t30, h30⟩ := T.ties
    refine ⟨_, pss_cons (ps_if (PW.pt (pw_or (pt_not (pt_val (pe_callB (call_isinst (T := "list")) (by rfl) T.isinst PyProof.Rows.boot_isinstance (pa_cons (pv 1) (pa_cons (pe_bltn (v := .ty "list") rfl T.list PyProof.Rows.boot_list rfl) pa_nil))) (fun _ => rfl)))
        (pw_or1 (pt_cmpR op_gt (pe_callB call_len_seq (by rfl) T.len PySem.boot_len (pa_cons (pv 1) pa_nil)) (pe_glob (v := .int 30) rfl h30 ⟨_, rfl⟩) (nomark _))))) (pss_one ps_never) pss_nil)
      (pss_one (ps_if (pt_not (pt_val (pe_callB (call_all rfl) (by rfl) T.all PyProof.Rows.boot_all (pa_cons (pe_lc ["tie"] [0] rfl (compSc (osc := (defScope sChkT).names) (N := ["places", "ties"]) rfl rfl (by decide +kernel)) (gk_name (by decide)) (pi_list (pv 1)) (fun _ _ _ => pg_name (i := 0) (show (["tie", "places"] : List Str).Nodup by decide +kernel) rfl (Or.inl rfl)) (fun _ _ _ => pifs_nil)
          (fun _ _ _ => pe_call GT hr rfl DT.mgf DT.fn.kp DT.b .nil pass0 (pa_cons (pv 1) (pa_cons (pv 0) pa_nil)))) pa_nil)) (fun _ => rfl))) (pss_one ps_never) pss_nil)), ?_⟩
    have le : (ts.map V.ref).length = ps.length := by rw [List.length_map, hT.len]
    refine ⟨_, rfl, _, _, true, rfl, .lst hb, rfl, _, rfl, ?_⟩
    refine iteF ⟨_, rfl, b, _, rfl, .inl (SqL.of hb), _, _, rfl, rfl, _, rfl, ?_⟩
    rw [le]
    refine ite2 (fun z => absurd z (by simp; omega)) (fun _ => ?_)
    refine ⟨_, rfl, b, rfl, ⟨_, SqL.of hb⟩, lc_list (K := K) (xs := ts.map V.ref) (fun i ys H2 => Same H H2 ∧ ys = List.replicate i (V.bl true)) ⟨Same.refl _, rfl⟩ ?_ ?_ ?_ ?_⟩
    · rintro i ys H2 hi ⟨_, rfl⟩
      rw [List.length_replicate]
      rw [le] at hi
      exact Nat.le_trans hi (Nat.le_trans few (by decide))
    · rintro i ys H2 _ ⟨s2, _⟩
      exact SqL.of (s2 _ _ hb)
    · rintro i x ys H2 R hx ⟨s2, rfl⟩ kR
      rw [List.getElem?_map] at hx
      obtain ⟨t, et, rfl⟩ := Option.map_eq_some_iff.mp hx
      obtain ⟨p, ep, ht⟩ := hT.get et
      obtain ⟨i1, i2⟩ := hI p (List.mem_of_getElem? ep)
      simp only [tYes, gName, if_true]
      refine ⟨_, rfl, _, rfl, a, ns, t, p.1, p.2, rfl, SqL.of (s2 _ _ ha), s2 _ _ ht, ?_⟩
      rw [decide_eq_true i1, decide_eq_true i2]
      exact kR _ _ ⟨s2, by rw [List.replicate_succ']; rfl⟩
    · rintro ys H2 ⟨s2, rfl⟩ D hD
      have e : List.replicate (ts.map V.ref).length (V.bl true) = (List.replicate (ts.map V.ref).length true).map V.bl := by simp
      refine ⟨D, List.replicate (ts.map V.ref).length true, rfl, (by rw [e]; exact SqL.of upd_same), _, rfl, ?_⟩
      have e2 : (List.replicate (ts.map V.ref).length true).all id = true := by simp
      rw [e2]
      exact iteF (k _ (s2.trans (same_upd hD)))
end
end K15

set_option Elab.async false
set_option linter.all false
set_option maxRecDepth 100000
set_option maxHeartbeats 4000000
namespace K15
open PySem PySem.Spec PyProof.Rows L2
/-- the class of webs -/
structure WC (K : PySem.W.Frag) (mg : Str → Option Value) (C : Addr) : Prop where
  cl : Cls K C
  nP : NoAttr K C "kept_places"
  nT : NoAttr K C "kept_ties"
  mgC : mg "Web" = some (.ref C)
def wf (kp kt : Addr) : List (Str × V) := [("kept_places", .ref kp), ("kept_ties", .ref kt)]
/-- a web stands at x -/
def WebObj (C : Addr) (H : Hp) (x : Addr) (ns : List Str) (ps : List (Str × Str)) : Prop :=
  ∃ dx kp kt ts, H x = some (.ins C dx (wf kp kt)) ∧ H kp = some (.tup ((srt ns).map V.str)) ∧ H kt = some (.tup (ts.map V.ref)) ∧ TiesAt H ts ps
theorem WebObj.same {C : Addr} {H H' : Hp} {x : Addr} {ns : List Str} {ps : List (Str × Str)} (h : WebObj C H x ns ps) (s : Same H H') : WebObj C H' x ns ps :=
  let ⟨dx, kp, kt, ts, h1, h2, h3, h4⟩ := h
  ⟨dx, kp, kt, ts, s _ _ h1, s _ _ h2, s _ _ h3, h4.same s⟩
theorem WebObj.but {C p : Addr} {H H' : Hp} {x : Addr} {ns : List Str} {ps : List (Str × Str)} {xs : List V} (h : WebObj C H x ns ps) (s : But p H H') (hp : H p = some (.lst xs)) : WebObj C H' x ns ps :=
  let ⟨dx, kp, kt, ts, h1, h2, h3, h4⟩ := h
  ⟨dx, kp, kt, ts, s _ _ h1 (ne_of h1 hp (by intro z; cases z)), s _ _ h2 (ne_of h2 hp (by intro z; cases z)), s _ _ h3 (ne_of h3 hp (by intro z; cases z)), h4.but s (fun ys z => by rw [hp] at z; cases z)⟩
theorem wf_p (kp kt : Addr) : (wf kp kt).lookup ("kept_places" : Str) = some (V.ref kp) := rfl
theorem wf_t (kp kt : Addr) : (wf kp kt).lookup ("kept_ties" : Str) = some (V.ref kt) := by
  show List.lookup _ (_ :: _) = _
  rw [List.lookup_cons, show (("kept_ties" : Str) == "kept_places") = false by decide +kernel]
  rfl
theorem wf_no (kp kt : Addr) (m : Str) (h1 : (m == ("kept_places" : Str)) = false) (h2 : (m == ("kept_ties" : Str)) = false) : (wf kp kt).lookup m = none := by
  show List.lookup _ (_ :: _) = _
  rw [List.lookup_cons, h1]
  show List.lookup _ (_ :: _) = _
  rw [List.lookup_cons, h2]
  rfl
section
variable {P : Program} {w : World} {K : PySem.W.Frag} {mg : Str → Option Value} {base : Heap}
/-- the lists of a web: names at a, ties at b -/
structure Lists (H : Hp) (a b : Addr) (ns : List Str) (ps : List (Str × Str)) (ts : List Addr) : Prop where
  ha : H a = some (.lst (ns.map V.str))
  hb : H b = some (.lst (ts.map V.ref))
  hT : TiesAt H ts ps
  good : GoodP ns
  ins : InP ns ps
  few : ps.length ≤ 30
theorem Lists.same {H H' : Hp} {a b : Addr} {ns : List Str} {ps : List (Str × Str)} {ts : List Addr} (h : Lists H a b ns ps ts) (s : Same H H') : Lists H' a b ns ps ts := ⟨s _ _ h.ha, s _ _ h.hb, h.hT.same s, h.good, h.ins, h.few⟩
def spInit (C : Addr) : Sp := fun vs H Q _ => ∃ (x a b : Addr) (ns : List Str) (ps : List (Str × Str)) (ts : List Addr), vs = [.ref x, .ref a, .ref b] ∧ (∃ dx, H x = some (.ins C dx [])) ∧ Lists H a b ns ps ts ∧ ∀ H', WebObj C H' x ns ps → But x H H' → Q .non H'
theorem scIn : FnScope ["self", "places", "ties"] ["self", "places", "ties"] (defScope sInit) := ⟨rfl, rfl, rfl, by decide +kernel, rfl, by decide +kernel, by decide +kernel⟩
theorem ok_init {C f fN fA fT f1 f2 : Addr} {fd fdN fdA fdT fd1 fd2 : FuncData} (F : Fun K "__init__" "Web.__init__" sInit f fd) (W : WC K mg C) (DN : Df K mg "is_name" sName ["thing"] fN fdN) (DA : Df K mg "is_among" sAmong ["places", "thing"] fA fdA) (DT : Df K mg "is_tie" sTie ["places", "thing"] fT fdT)
    (D1 : Df K mg "check_places" sChkP ["places"] f1 fd1) (D2 : Df K mg "check_ties" sChkT ["places", "ties"] f2 fd2) (T : Glb mg) : FnOk P w K mg base CX0 4 f fd ["self", "places", "ties"] (spInit C) := by
  have G1 : FnOk P w K mg base CX0 2 f1 fd1 ["places"] spChkP := ok_chkP D1.fn DN T
  have G2 : FnOk P w K mg base CX0 3 f2 fd2 ["places", "ties"] spChkT := ok_chkT D2.fn DA DT T
  refine F.ok scIn (fun vs H Q E h => ?_) (fun cdv A outer s H vs Q E hr h => ?_)
  · obtain ⟨x, a, b, ns, ps, ts, rfl, _⟩ := h
    rfl
  · obtain ⟨x, a, b, ns, ps, ts, rfl, ⟨dx, hx⟩, L, k⟩ := h
    refine ⟨_, pss_cons (ps_expr (pe_call G1 (hr.mono (by decide)) rfl D1.mgf D1.fn.kp D1.b .nil pass0 (pa_cons (pv 1) pa_nil)))
      (pss_cons (ps_expr (pe_call G2 (hr.mono (by decide)) rfl D2.mgf D2.fn.kp D2.b .nil pass0 (pa_cons (pv 1) (pa_cons (pv 2) pa_nil))))
      (pss_cons (ps_fld (pv 0) (pe_callTy call_tuple_of (by rfl) T.tuple PyProof.Rows.boot_tuple (pa_cons (pe_callB call_sorted_txt (by rfl) T.sorted PyProof.Rows.boot_sorted (pa_cons (pv 1) pa_nil)) pa_nil)) rfl)
      (pss_one (ps_fld (pv 0) (pe_callTy call_tuple_of (by rfl) T.tuple PyProof.Rows.boot_tuple (pa_cons (pe_lc ["a", "b"] [] rfl (compSc (osc := (defScope sInit).names) (N := ["self", "places", "ties"]) rfl rfl (by decide +kernel)) (gk_two (k := 2) (by decide) (by decide)) (pi_list (pv 2))
        (fun _ _ _ => pg_tup (n := 2) rfl (pgs_cons (pg_name (i := 0) (show (["a", "b"] : List Str).Nodup by decide +kernel) rfl (Or.inl rfl)) (pgs_cons (pg_name (i := 1) (show (["a", "b"] : List Str).Nodup by decide +kernel) rfl (Or.inl rfl)) pgs_nil))) (fun _ _ _ => pifs_nil)
        (fun _ _ _ => pe_tup (pa_cons (pv 0) (pa_cons (pv 1) pa_nil)))) pa_nil)) rfl)))), ?_⟩
    refine ⟨_, rfl, a, ns, rfl, L.ha, L.good, fun H1 s1 => ?_⟩
    have L1 := L.same s1
    refine ⟨_, rfl, _, rfl, a, b, ns, ts, ps, rfl, L1.ha, L1.hb, L1.hT, L1.ins, L1.few, fun H2 s2 => ?_⟩
    have L2' := L1.same s2
    refine ⟨_, rfl, a, ns, rfl, SqL.of L2'.ha, Nat.lt_of_le_of_lt L.good.few (by decide), fun l hl => ?_⟩
    refine ⟨l, _, rfl, .inl ⟨SqL.of upd_same, fun kp hkp => ?_⟩⟩
    have s3 : Same H2 (upd (upd H2 l (.lst ((srt ns).map V.str))) kp (.tup ((srt ns).map V.str))) := (same_upd hl).trans (same_upd hkp)
    have s03 := (s1.trans s2).trans s3
    have hkp3 := upd_same (H := upd H2 l (.lst ((srt ns).map V.str))) (a := kp) (o := .tup ((srt ns).map V.str))
    generalize upd (upd H2 l (.lst ((srt ns).map V.str))) kp (.tup ((srt ns).map V.str)) = H3 at s3 s03 hkp3 ⊢
    have hx3 := s03 _ _ hx
    refine ⟨_, rfl, x, C, dx, _, rfl, hx3, W.cl, W.nP, (by show 0 < 1000; decide), ?_⟩
    have L3 := L.same s03
    have nax : a ≠ x := ne_of L3.ha hx3 (by intro z; cases z)
    have nbx : b ≠ x := ne_of L3.hb hx3 (by intro z; cases z)
    have nkx : kp ≠ x := ne_of hkp3 hx3 (by intro z; cases z)
    have L4 : Lists (upd H3 x (.ins C dx (putF "kept_places" (.ref kp) []))) a b ns ps ts := ⟨by rw [upd_ne nax]; exact L3.ha, by rw [upd_ne nbx]; exact L3.hb, L3.hT.mono fun t xs e => by rw [upd_ne (ne_of e hx3 (by intro z; cases z))]; exact e, L.good, L.ins, L.few⟩
    have b4 : But x H (upd H3 x (.ins C dx (putF "kept_places" (.ref kp) []))) := fun c o e n => by rw [upd_ne n]; exact s03 _ _ e
    have hx4 := upd_same (H := H3) (a := x) (o := .ins C dx (putF "kept_places" (.ref kp) []))
    have hkp4 : (upd H3 x (.ins C dx (putF "kept_places" (.ref kp) []))) kp = some (.tup ((srt ns).map V.str)) := by rw [upd_ne nkx]; exact hkp3
    generalize upd H3 x (.ins C dx (putF "kept_places" (.ref kp) [])) = H4 at L4 b4 hx4 hkp4 ⊢
    have le : (ts.map V.ref).length = ps.length := by rw [List.length_map, L.hT.len]
    refine ⟨_, rfl, b, rfl, ⟨_, SqL.of L4.hb⟩, lc_list (K := K) (xs := ts.map V.ref) (fun i ys H5 => Same H4 H5 ∧ ∃ us : List Addr, ys = us.map V.ref ∧ us.length = i ∧ TiesAt H5 us (ps.take i)) ⟨Same.refl _, [], rfl, rfl, .nil⟩ ?_ ?_ ?_ ?_⟩
    · rintro i ys H5 hi ⟨_, us, rfl, e, _⟩
      rw [List.length_map, e]
      rw [le] at hi
      exact Nat.le_trans hi (Nat.le_trans L.few (by decide))
    · rintro i ys H5 _ ⟨s5, _⟩
      exact SqL.of (s5 _ _ L4.hb)
    · rintro i y ys H5 R hy ⟨s5, us, rfl, e, hU⟩ kR
      rw [List.getElem?_map] at hy
      obtain ⟨t, et, rfl⟩ := Option.map_eq_some_iff.mp hy
      obtain ⟨p, ep, ht⟩ := L4.hT.get et
      refine ⟨t, _, rfl, SqT.of (s5 _ _ ht), rfl, _, _, rfl, _, _, rfl, rfl, ?_⟩
      simp only [tYes, if_true]
      refine ⟨_, rfl, _, rfl, (by show 2 ≤ sizeLine; decide), fun u hu => ?_⟩
      have e2 : us.map V.ref ++ [V.ref u] = (us ++ [u]).map V.ref := by simp
      refine kR _ _ ⟨s5.trans (same_upd hu), us ++ [u], e2, by simp [e], ?_⟩
      rw [List.take_add_one, ep]
      exact (hU.same (same_upd hu)).snoc upd_same
    · rintro ys H5 ⟨s5, us, rfl, e, hU⟩ D hD
      rw [le, List.take_of_length_le (Nat.le_refl _)] at hU
      refine ⟨D, _, rfl, .inl ⟨SqL.of upd_same, fun kt hkt => ?_⟩⟩
      have s6 : Same H4 (upd (upd H5 D (.lst (us.map V.ref))) kt (.tup (us.map V.ref))) := s5.trans ((same_upd hD).trans (same_upd hkt))
      have hU6 := hU.same ((same_upd (o := .lst (us.map V.ref)) hD).trans (same_upd (o := .tup (us.map V.ref)) hkt))
      have hkt6 := upd_same (H := upd H5 D (.lst (us.map V.ref))) (a := kt) (o := .tup (us.map V.ref))
      generalize upd (upd H5 D (.lst (us.map V.ref))) kt (.tup (us.map V.ref)) = H6 at s6 hU6 hkt6 ⊢
      have hx6 := s6 _ _ hx4
      refine ⟨_, rfl, x, C, dx, _, rfl, hx6, W.cl, W.nT, (by show 1 < 1000; decide), ?_⟩
      refine k _ ⟨dx, kp, kt, us, ?_, ?_, ?_, ?_⟩ fun c o e n => ?_
      · rw [upd_same]
        show some (HO.ins C dx (putF "kept_ties" (.ref kt) (putF "kept_places" (.ref kp) []))) = _
        rfl
      · rw [upd_ne (ne_of (s6 _ _ hkp4) hx6 (by intro z; cases z))]; exact s6 _ _ hkp4
      · rw [upd_ne (ne_of hkt6 hx6 (by intro z; cases z))]; exact hkt6
      · exact hU6.mono fun t xs e => by rw [upd_ne (ne_of e hx6 (by intro z; cases z))]; exact e
      · rw [upd_ne n]; exact s6 _ _ (b4 c o e n)
/-! ### places, many, tie, ties -/
def spPl (C : Addr) : Sp := fun vs H Q _ => ∃ (x : Addr) (ns : List Str) (ps : List (Str × Str)), vs = [.ref x] ∧ WebObj C H x ns ps ∧ ∀ l, H l = none → Q (.ref l) (upd H l (.lst ((srt ns).map V.str)))
theorem scPl : FnScope ["self"] ["self"] (defScope sPlaces) := ⟨rfl, rfl, rfl, by decide +kernel, rfl, by decide +kernel, by decide +kernel⟩
theorem ok_places {C f : Addr} {fd : FuncData} (F : Fun K "places" "Web.places" sPlaces f fd) (W : WC K mg C) (T : Glb mg) : FnOk P w K mg base CX0 1 f fd ["self"] (spPl C) := by
  refine F.ok scPl (fun vs H Q E h => ?_) (fun cdv A outer s H vs Q E hr h => ?_)
  · obtain ⟨x, ns, ps, rfl, _⟩ := h
    rfl
  · obtain ⟨x, ns, ps, rfl, ⟨dx, kp, kt, ts, h1, h2, h3, h4⟩, k⟩ := h
    refine ⟨_, pss_one (ps_ret (pe_callTy call_list_of (by rfl) T.list PyProof.Rows.boot_list (pa_cons (pe_fld (pv 0) rfl) pa_nil))), ?_⟩
    exact ⟨_, rfl, x, C, dx, _, _, rfl, h1, W.cl, W.nP, wf_p kp kt, kp, _, rfl, .inr (SqT.of h2), k⟩
def spTs (C : Addr) : Sp := fun vs H Q _ => ∃ (x : Addr) (ns : List Str) (ps : List (Str × Str)), vs = [.ref x] ∧ WebObj C H x ns ps ∧ ∀ l us, H l = none → TiesAt H us ps → Q (.ref l) (upd H l (.lst (us.map V.ref)))
theorem scTs : FnScope ["self"] ["self"] (defScope sTies) := ⟨rfl, rfl, rfl, by decide +kernel, rfl, by decide +kernel, by decide +kernel⟩
theorem ok_ties {C f : Addr} {fd : FuncData} (F : Fun K "ties" "Web.ties" sTies f fd) (W : WC K mg C) (T : Glb mg) : FnOk P w K mg base CX0 1 f fd ["self"] (spTs C) := by
  refine F.ok scTs (fun vs H Q E h => ?_) (fun cdv A outer s H vs Q E hr h => ?_)
  · obtain ⟨x, ns, ps, rfl, _⟩ := h
    rfl
  · obtain ⟨x, ns, ps, rfl, ⟨dx, kp, kt, ts, h1, h2, h3, h4⟩, k⟩ := h
    refine ⟨_, pss_one (ps_ret (pe_callTy call_list_of (by rfl) T.list PyProof.Rows.boot_list (pa_cons (pe_fld (pv 0) rfl) pa_nil))), ?_⟩
    exact ⟨_, rfl, x, C, dx, _, _, rfl, h1, W.cl, W.nT, wf_t kp kt, kt, _, rfl, .inr (SqT.of h3), fun l hl => k l ts hl h4⟩
end
end K15

set_option Elab.async false
set_option linter.all false
set_option maxRecDepth 100000
set_option maxHeartbeats 4000000
namespace K15
open PySem PySem.Spec PyProof.Rows L2
section
variable {P : Program} {w : World} {K : PySem.W.Frag} {mg : Str → Option Value} {base : Heap}
/-- an own error class of the text -/
structure Ex (K : PySem.W.Frag) (mg : Str → Option Value) (x : Str) (C : Addr) : Prop where
  b : mg x = some (.ref C)
  bm : ∃ Bn newId initId bm, PySem.W.excIn K C bm newId = true ∧ ExcBaseFacts Bn newId initId bm
/-- tie: its answer at a number of a tie; else it raises the class at E1 -/
def spTieM (C E1 : Addr) : Sp := fun vs H Q R => ∃ (x : Addr) (ns : List Str) (ps : List (Str × Str)) (y : V), vs = [.ref x, y] ∧ WebObj C H x ns ps ∧
  ((∃ (i : Nat) (p : Str × Str), y = .int i ∧ ps[i]? = some p ∧ ∀ t, H t = some (.tup [.str p.1, .str p.2]) → Q (.ref t) H) ∨
   (∃ t b1 b2, TyOf K H y t ∧ PySem.W.kitOne K t (.type "int") = some b1 ∧ PySem.W.kitOne K t (.type "bool") = some b2 ∧ ((b1 && !b2) = false ∨ ((b1 && !b2) = true ∧ ∃ i : Int, y = .int i ∧ (i < 0 ∨ (ps.length : Int) ≤ i))) ∧ R (.ref E1) none H))
theorem scTM : FnScope ["self", "k"] ["self", "k"] (defScope sTieM) := ⟨rfl, rfl, rfl, by decide +kernel, rfl, by decide +kernel, by decide +kernel⟩
theorem ok_tieM {C E1 f fW : Addr} {fd fdW : FuncData} (F : Fun K "tie" "Web.tie" sTieM f fd) (W : WC K mg C) (DW : Df K mg "is_whole" sWhole ["thing"] fW fdW) (X1 : Ex K mg "NoTie" E1) (T : Glb mg) : FnOk P w K mg base (CXO P w) 2 f fd ["self", "k"] (spTieM (K := K) C E1) := by
  have GW : FnOk P w K mg base CX0 1 fW fdW ["thing"] (spWhole (K := K)) := ok_whole DW.fn T
  refine F.okO scTM (fun vs H Q E h => ?_) (fun cdv A outer s H vs Q E hr h => ?_)
  · obtain ⟨x, ns, ps, y, rfl, _⟩ := h
    rfl
  · obtain ⟨x, ns, ps, y, rfl, ⟨dx, kp, kt, ts, h1, h2, h3, h4⟩, h⟩ := h
    obtain ⟨Bn, newId, initId, bm, q, FB⟩ := X1.bm
    refine ⟨_, pss_cons (ps_if (PW.pt (pw_or (pt_not (pt_val (pe_call GW hr rfl DW.mgf DW.fn.kp DW.b .nil pass0 (pa_cons (pv 1) pa_nil)) (fun _ => rfl)))
        (pw_or1 (pt_not (pt_chain op_le op_lt pe_int (pv 1) (pe_callB call_len_seq (by rfl) T.len PySem.boot_len (pa_cons (pe_fld (pv 0) rfl) pa_nil))))))) (pss_one (ps_raise rfl X1.b q FB (pa_cons pe_str pa_nil))) pss_nil)
      (pss_one (ps_ret (pe_ix ix_tup (pe_fld (pv 0) rfl) (pv 1) (fun _ _ => rfl)))), ?_⟩
    rcases h with ⟨i, p, rfl, ep, k⟩ | ⟨t, b1, b2, ty, e1, e2, no, k⟩
    · have hi : i < ps.length := (List.getElem?_eq_some_iff.mp ep).1
      refine ⟨_, rfl, _, _, true, false, rfl, .int _, rfl, rfl, _, rfl, ?_⟩
      refine iteF ⟨_, rfl, _, _, rfl, rfl, _, rfl, ?_⟩
      refine ite2 (fun _ => ?_) (fun z => absurd z (by simp))
      refine ⟨_, rfl, x, C, dx, _, _, rfl, h1, W.cl, W.nT, wf_t kp kt, kt, _, rfl, .inr (SqT.of h3), _, _, rfl, rfl, _, rfl, ?_⟩
      rw [List.length_map, h4.len]
      refine ite2 (fun z => absurd z (by simp; omega)) (fun _ => ?_)
      have hit : i < ts.length := by rw [h4.len]; exact hi
      obtain ⟨p', ep', ht⟩ := h4.get (List.getElem?_eq_getElem hit)
      rw [ep] at ep'
      cases ep'
      exact ⟨_, rfl, x, C, dx, _, _, rfl, h1, W.cl, W.nT, wf_t kp kt, _, rfl, kt, _, _, _, rfl, rfl, SqT.of h3, atI_nat (j := i) (v := .ref ts[i]) (by rw [List.getElem?_map, List.getElem?_eq_getElem hit]; rfl), k _ ht⟩
    · refine ⟨_, rfl, y, t, b1, b2, rfl, ty, e1, e2, _, rfl, ?_⟩
      have fin : tRaise E1 (tCons (tC (.str "it is no number of a tie of the web")) tNil) E { nx := fun _ H' => Q .non H', rt := Q } (start ["self", "k"] [.ref x, y]) H := ⟨by decide, k⟩
      rcases no with no | ⟨no, i, rfl, no2⟩
      · rw [no]
        exact iteT fin
      · rw [no]
        refine iteF ⟨_, rfl, _, _, rfl, rfl, _, rfl, ?_⟩
        refine ite2 (fun z => ?_) (fun _ => ⟨_, rfl, iteT fin⟩)
        refine ⟨_, rfl, x, C, dx, _, _, rfl, h1, W.cl, W.nT, wf_t kp kt, kt, _, rfl, .inr (SqT.of h3), _, _, rfl, rfl, _, rfl, ?_⟩
        rw [List.length_map, h4.len]
        refine ite2 (fun _ => fin) (fun z2 => ?_)
        have a1 : 0 ≤ i := by simpa using z
        have a2 : i < ps.length := by simpa using z2
        omega
end
end K15

set_option Elab.async false
set_option linter.all false
set_option maxRecDepth 100000
set_option maxHeartbeats 4000000
namespace L2
open PySem PySem.Spec PyProof.Rows
theorem lc_str {z : Str} {own : List Str} {fr : List Nat} {g : TG} {tt : TT} {te : TE} {σ : St} {Q : VK} {H : Hp} (Pv : Nat → List V → Hp → Prop) (h0 : Pv 0 [] H) (hlen : ∀ i ys H, i ≤ z.cps.size → Pv i ys H → ys.length ≤ sizeLine)
    (hs : ∀ i c ys H (R : List V → Hp → Prop), z.cps[i]? = some c → Pv i ys H → (∀ ys' H', Pv (i + 1) ys' H' → R ys' H') → g (.str ⟨#[c]⟩) (cSt own fr σ) H fun σ4 H4 => tt σ4 H4 fun b H5 => if b = true then te σ4 H5 fun y H6 => R (ys ++ [y]) H6 else R ys H5)
    (hd : ∀ ys H, Pv z.cps.size ys H → ∀ D, H D = none → Q (.ref D) (upd H D (.lst ys))) : lcLoop own fr g tt te σ Q (Its z) H := by
  refine ⟨fun i m ys H => m = z.cps.size - i ∧ i ≤ z.cps.size ∧ Pv i ys H, ⟨z.cps.size, rfl, Nat.zero_le _, h0⟩, ?_⟩
  rintro i m ys H2 ⟨rfl, hi, p⟩
  refine ⟨hlen i ys H2 hi p, ?_⟩
  by_cases h : i < z.cps.size
  · refine .inr ⟨h, fun x H3 hy => ?_⟩
    obtain ⟨rfl, c, hc, rfl⟩ := hy
    exact hs i c ys _ (fun ys' H' => ∃ m', m' < z.cps.size - i ∧ (m' = z.cps.size - (i + 1) ∧ i + 1 ≤ z.cps.size ∧ Pv (i + 1) ys' H')) hc p fun ys' H' q => ⟨z.cps.size - (i + 1), by omega, rfl, h, q⟩
  · have e : i = z.cps.size := by omega
    subst e
    exact .inl ⟨rfl, hd ys H2 p⟩
/-- one sign as a text -/
abbrev one (c : Nat) : Str := ⟨#[c]⟩
theorem glue_ones : ∀ (cs : List Nat) (acc : Array Nat), ((cs.map one).foldl (fun acc p => acc ++ ("" : Str).cps ++ p.cps) acc).toList = acc.toList ++ cs
  | [], acc => by simp
  | c :: cs, acc => by
    have e : ("" : Str).cps = #[] := by decide +kernel
    rw [List.map_cons, List.foldl_cons, glue_ones cs, e]
    simp
theorem join_ones {cs : List Nat} (h : cs ≠ []) : (Txt.join "" (cs.map one)).cps.toList = cs := by
  cases cs with
  | nil => exact absurd rfl h
  | cons c r =>
    show ((r.map one).foldl (fun acc p => acc ++ ("" : Str).cps ++ p.cps) (one c).cps).toList = _
    rw [glue_ones]
    rfl
theorem atI_mem {α : Type} {xs : List α} {i : Int} {v : α} (h : atI xs i = some v) : v ∈ xs := by
  unfold atI at h
  obtain ⟨j, _, e⟩ := Option.bind_eq_some_iff.mp h
  exact List.mem_of_getElem? e
theorem pigeon : ∀ (l m : List Str), l.Nodup → (∀ x ∈ l, x ∈ m) → l.length ≤ m.length
  | [], m, _, _ => Nat.zero_le _
  | x :: l, m, nd, h => by
    rw [List.nodup_cons] at nd
    have hx := h x List.mem_cons_self
    have q := pigeon l (m.erase x) nd.2 fun y hy => (List.mem_erase_of_ne (fun e : y = x => nd.1 (e ▸ hy))).mpr (h y (List.mem_cons_of_mem _ hy))
    rw [List.length_erase_of_mem hx] at q
    have : 0 < m.length := List.length_pos_of_mem hx
    simp only [List.length_cons]
    omega
end L2
namespace K15
open PySem PySem.Spec PyProof.Rows L2
abbrev abc : Str := "abcdefghijklmnopqrstuvwxyz"
theorem abc_size : abc.cps.size = 26 := by decide +kernel
theorem abc_ok : ∀ c ∈ abc.cps.toList, (lo c && hi c) = true := by decide +kernel
theorem abc_nd : (abc.cps.toList.map one).Nodup := by decide +kernel
theorem nm_one {c : Nat} (h : (lo c && hi c) = true) : nm (one c) = true := by
  show ((decide (1 ≤ 1) && decide (1 ≤ 8)) && ([c].map fun c => lo c && hi c).all id) = true
  simp [h]
theorem nm_of {z : Str} {cs : List Nat} (e : z.cps.toList = cs) (h1 : 1 ≤ cs.length) (h8 : cs.length ≤ 8) (h : ∀ c ∈ cs, (lo c && hi c) = true) : nm z = true := by
  have l : z.length = cs.length := by rw [← e]; exact Array.length_toList.symm
  unfold nm
  rw [l, decide_eq_true h1, decide_eq_true h8, e]
  simp only [Bool.and_self, Bool.true_and, List.all_map, List.all_eq_true]
  exact fun c hc => h c hc
section
variable {P : Program} {w : World} {K : PySem.W.Frag} {mg : Str → Option Value} {base : Heap}
def spLN : Sp := fun vs H Q _ => ∃ (p q : Addr) (ns : List Str), vs = [.ref p, .ref q] ∧ Row H p ∧ H q = some (.lst (ns.map V.str)) ∧ ns.length ≤ 25 ∧ ∀ (z : Str) (H' : Hp), nm z = true → z ∉ ns → Row H' p → But p H H' → Q (.str z) H'
abbrev nN : List Str := ["_law_row", "_law_taken", "_law_letters", "_law_name_here"]
theorem scLN : FnScope nN ["_law_row", "_law_taken"] (defScope sLName) := ⟨rfl, rfl, rfl, by decide +kernel, rfl, by decide +kernel, by decide +kernel⟩
theorem ok_lname {f fD : Addr} {fd fdD : FuncData} (F : Fun K "_law_name" "_law_name" sLName f fd) (D : Df K mg "_law_draw" sDraw ["_law_row", "_law_many"] fD fdD) (T : Glb mg) : FnOk P w K mg base CX0 2 f fd ["_law_row", "_law_taken"] spLN := by
  have G : FnOk P w K mg base CX0 1 fD fdD ["_law_row", "_law_many"] spDraw := ok_draw D.fn T
  refine F.ok scLN (fun vs H Q E h => ?_) (fun cdv A outer s H vs Q E hr h => ?_)
  · obtain ⟨p, q, ns, rfl, _⟩ := h
    rfl
  · obtain ⟨p, q, ns, rfl, hp, hq, few, k⟩ := h
    refine ⟨_, pss_cons (ps_set (i := 2) scLN.nd rfl (Or.inr rfl) pe_str)
      (pss_cons (ps_set (i := 3) scLN.nd rfl (Or.inl rfl) (pe_bm PySem.F.plainAttrs_str PySem.F.slot_str_join PySem.F.type_str_join mt_join pe_str (pa_cons
        (pe_lc ["_law_k"] [2, 0] rfl (compSc (osc := (defScope sLName).names) (N := nN) rfl rfl (by decide +kernel)) (gk_name (by decide))
          (pi_range1 rfl T.range (pa_cons (pe_op op_add pe_int (pe_call G hr rfl D.mgf D.fn.kp D.b .nil pass0 (pa_cons (pv 0) (pa_cons pe_int pa_nil)))) pa_nil))
          (fun _ _ _ => pg_name (i := 0) (show (["_law_k", "_law_letters", "_law_row"] : List Str).Nodup by decide +kernel) rfl (Or.inl rfl)) (fun _ _ _ => pifs_nil)
          (fun _ _ _ => pe_ix ix_str (pv 1) (pe_call G hr rfl D.mgf D.fn.kp D.b .nil pass0 (pa_cons (pv 2) (pa_cons pe_int pa_nil))) (fun _ _ => rfl))) pa_nil)))
      (pss_cons (ps_if (pt_cmpR op_in_seq (pv 3) (pv 1) rfl) (pss_one (ps_set (i := 3) scLN.nd rfl (Or.inl rfl) (pe_ix ix_list
        (pe_lc ["_law_letter"] [1] rfl (compSc (osc := (defScope sLName).names) (N := nN) rfl rfl (by decide +kernel)) (gk_name (by decide)) (pi_str (pv 2))
          (fun _ _ _ => pg_name (i := 0) (show (["_law_letter", "_law_taken"] : List Str).Nodup by decide +kernel) rfl (Or.inl rfl)) (fun _ _ _ => pifs_one (pt_cmpR (r := rIn K true) op_notIn_seq (pv 0) (pv 1) rfl))
          (fun _ _ _ => pv 0)) pe_int (fun _ _ => rfl)))) pss_nil)
      (pss_one (ps_ret (pv 3))))), ?_⟩
    refine ⟨rfl, _, rfl, p, 8, rfl, hp, by decide, by decide, fun d1 H1 d1a d1b hp1 b1 => ?_⟩
    refine ⟨_, _, rfl, rfl, _, rfl, by omega, by omega, lc_range (fun i ys H2 => Row H2 p ∧ But p H H2 ∧ ∃ cs : List Nat, ys = (cs.map one).map V.str ∧ cs.length = i ∧ ∀ c ∈ cs, (lo c && hi c) = true) ⟨hp1, b1, [], rfl, rfl, fun _ h => nomatch h⟩ ?_ ?_ ?_⟩
    · rintro i ys H2 hi ⟨_, _, cs, rfl, hl, _⟩
      rw [List.length_map, List.length_map, hl]
      exact Nat.le_trans hi (Nat.le_trans (show (1 + d1).toNat ≤ 8 by omega) (by decide))
    · rintro i ys H2 R hi ⟨hp2, b2, cs, rfl, hl, h1⟩ kR
      simp only [tYes, gName, if_true]
      refine ⟨_, rfl, _, rfl, p, 26, rfl, hp2, by decide, by decide, fun d2 H3 d2a d2b hp3 b3 => ?_⟩
      obtain ⟨c, hc⟩ := lit_ix (z := abc) d2a (by rw [letters26]; exact d2b)
      refine ⟨_, _, c, rfl, rfl, by decide +kernel, hc, kR _ _ ⟨hp3, b2.trans b3, cs ++ [c], by simp, by simp [hl], fun y hy => ?_⟩⟩
      rcases List.mem_append.mp hy with q | q
      · exact h1 y q
      · rw [List.mem_singleton.mp q]; exact abc_ok c (atI_mem hc)
    · rintro ys H2 ⟨hp2, b2, cs, rfl, hl, h1⟩ D0 hD0
      obtain ⟨b3, hp3⟩ := b2.laid (o := .lst ((cs.map one).map V.str)) hD0 hp2
      have l1 : 1 ≤ cs.length := by rw [hl]; omega
      have l8 : cs.length ≤ 8 := by rw [hl]; omega
      have hsum : ((cs.map one).map (·.length)).sum + (cs.map one).length * ("" : Str).length ≤ 8 := by
        have e1 : ((cs.map one).map (·.length)).sum = cs.length := by
          rw [List.map_map]
          clear hl h1 l1 l8 b3 hp3
          induction cs with
          | nil => rfl
          | cons c r ih => rw [List.map_cons, List.sum_cons, ih]; show 1 + _ = _; simp; omega
        have : ("" : Str).length = 0 := by decide +kernel
        rw [e1, this]; omega
      have hn : nm (Txt.join "" (cs.map one)) = true := nm_of (join_ones (by intro e; rw [e] at l1; simp at l1)) l1 l8 h1
      refine ⟨"", D0, cs.map one, rfl, rfl, SqL.of upd_same, Nat.le_trans hsum (by decide), ?_⟩
      generalize Txt.join "" (cs.map one) = z0 at hn ⊢
      generalize upd H2 D0 (HO.lst ((cs.map one).map V.str)) = H3 at b3 hp3 ⊢
      have npq : q ≠ p := fun e => by
        obtain ⟨x, y, r⟩ := hp
        rw [e, r] at hq
        have := Option.some.inj hq
        injection this with this
        cases ns with
        | nil => simp at this
        | cons n _ => simp at this
      have hq3 := b3 _ _ hq npq
      refine ⟨_, rfl, _, rfl, q, _, rfl, .inl (SqL.of hq3), rfl, flat_strs ns, _, rfl, ?_⟩
      simp only [Bool.false_eq_true, if_false]
      rw [inV_str]
      refine ite2 (fun hin => ?_) (fun hin => ?_)
      · refine ⟨_, rfl, abc, rfl, lc_str (fun i ys H4 => H4 = H3 ∧ ys = (((abc.cps.toList.take i).filter fun c => decide (one c ∉ ns)).map one).map V.str) ⟨rfl, rfl⟩ ?_ ?_ ?_⟩
        · rintro i ys H4 hi ⟨_, rfl⟩
          rw [List.length_map, List.length_map]
          refine Nat.le_trans (List.length_filter_le _ _) ?_
          rw [List.length_take, Array.length_toList, abc_size]
          exact Nat.le_trans (Nat.min_le_right _ _) (by decide)
        · rintro i c ys H4 R hc ⟨rfl, rfl⟩ kR
          simp only [gName]
          refine ⟨_, rfl, _, rfl, q, _, rfl, .inl (SqL.of hq3), rfl, flat_strs ns, _, rfl, ?_⟩
          simp only [if_true]
          rw [inV_str]
          have et : abc.cps.toList.take (i + 1) = abc.cps.toList.take i ++ [c] := by
            rw [List.take_add_one, show abc.cps.toList[i]? = some c by simpa using hc]; rfl
          have ef : ((abc.cps.toList.take (i + 1)).filter fun c => decide (one c ∉ ns)) = ((abc.cps.toList.take i).filter fun c => decide (one c ∉ ns)) ++ (if one c ∈ ns then [] else [c]) := by
            rw [et, List.filter_append]
            by_cases h : one c ∈ ns <;> simp [h]
          by_cases h : one c ∈ ns
          · rw [decide_eq_true h]
            refine iteF (kR _ _ ⟨rfl, ?_⟩)
            rw [ef, if_pos h, List.append_nil]
          · rw [decide_eq_false h]
            refine iteT ⟨_, rfl, kR _ _ ⟨rfl, ?_⟩⟩
            rw [ef, if_neg h]
            simp
        · rintro ys H4 ⟨rfl, rfl⟩ D1 hD1
          have all : abc.cps.toList.take abc.cps.size = abc.cps.toList := List.take_of_length_le (by simp)
          rw [all]
          obtain ⟨b4, hp4⟩ := b3.laid (o := .lst (((abc.cps.toList.filter fun c => decide (one c ∉ ns)).map one).map V.str)) hD1 hp3
          have hD2 := upd_same (H := H4) (a := D1) (o := .lst (((abc.cps.toList.filter fun c => decide (one c ∉ ns)).map one).map V.str))
          cases ef : abc.cps.toList.filter fun c => decide (one c ∉ ns) with
          | nil =>
            exfalso
            have h := pigeon _ ns abc_nd fun x hx => by
              obtain ⟨c, hc, rfl⟩ := List.mem_map.mp hx
              have := List.filter_eq_nil_iff.mp ef c hc
              simpa using this
            rw [List.length_map, Array.length_toList, abc_size] at h
            omega
          | cons c r =>
            rw [ef] at b4 hp4 hD2
            have hc : c ∈ abc.cps.toList.filter fun c => decide (one c ∉ ns) := by rw [ef]; exact List.mem_cons_self
            obtain ⟨m1, m2⟩ := List.mem_filter.mp hc
            refine ⟨D1, _, _, _, rfl, rfl, SqL.of hD2, atI_nat (j := 0) rfl, _, rfl, ?_⟩
            exact k _ _ (nm_one (abc_ok c m1)) (by simpa using m2) hp4 b4
      · exact ⟨_, rfl, k z0 H3 hn (by simpa using hin) hp3 b3⟩
end
end K15

set_option Elab.async false
set_option linter.all false
set_option maxRecDepth 100000
set_option maxHeartbeats 4000000
namespace K15
open PySem PySem.Spec PyProof.Rows L2
section
variable {P : Program} {w : World} {K : PySem.W.Frag} {mg : Str → Option Value} {base : Heap}
theorem But.lists {p : Addr} {H H' : Hp} {a b : Addr} {ns : List Str} {ps : List (Str × Str)} {ts : List Addr} (h : Lists H a b ns ps ts) (s : But p H H') (hp : ∃ xs, H p = some (.lst xs)) (na : a ≠ p) (nb : b ≠ p) : Lists H' a b ns ps ts :=
  ⟨s _ _ h.ha na, s _ _ h.hb nb, h.hT.but s (fun ys z => by obtain ⟨xs, e⟩ := hp; rw [e] at z; cases z), h.good, h.ins, h.few⟩
/-- the row at p written, the list at q laid since H -/
theorem Row.lst {H : Hp} {p : Addr} (h : Row H p) : ∃ xs, H p = some (.lst xs) := let ⟨a, b, e⟩ := h; ⟨_, e⟩
theorem Row.upd_ne {H : Hp} {p q : Addr} {o : HO} (h : Row H p) (n : p ≠ q) : Row (upd H q o) p := let ⟨a, b, e⟩ := h; ⟨a, b, by rw [L2.upd_ne n]; exact e⟩
theorem But.upd_new {p q : Addr} {H H1 : Hp} {o : HO} (a : But p H H1) (hq : H q = none) : But p H (upd H1 q o) := fun c u e n => by rw [L2.upd_ne (ne_of_none e hq)]; exact a c u e n
def spWeb : Sp := fun vs H Q _ => ∃ (p : Addr), vs = [.ref p, .int 12] ∧ Row H p ∧ ∀ (t a b : Addr) (ns : List Str) (ps : List (Str × Str)) (ts : List Addr) (H' : Hp), Lists H' a b ns ps ts → H' t = some (.tup [.ref a, .ref b]) → H a = none → H b = none → H t = none → a ≠ b → Row H' p → But p H H' → Q (.ref t) H'
abbrev nW : List Str := ["_law_row", "_law_most", "_law_names", "_law_k", "_law_bent", "_law_ties", "_law_one", "_law_other"]
theorem scWb : FnScope nW ["_law_row", "_law_most"] (defScope sWeb) := ⟨rfl, rfl, rfl, by decide +kernel, rfl, by decide +kernel, by decide +kernel⟩
/-- a loop's state: the first loop -/
def WI1 (p q : Addr) (H : Hp) (i : Nat) (σ : L2.St) (H2 : Hp) : Prop := ∃ (v3 : Option V) (ns : List Str), σ = [some (V.ref p), some (V.int 12), some (V.ref q), v3, none, none, none, none] ∧ Row H2 p ∧ But p H H2 ∧ H2 q = some (.lst (ns.map V.str)) ∧ ns.length = i ∧ (∀ z ∈ ns, nm z = true) ∧ ns.Nodup
def WI2 (p q b : Addr) (H : Hp) (ns : List Str) (bent : Int) (i : Nat) (σ : L2.St) (H2 : Hp) : Prop := ∃ (v3 v6 v7 : Option V) (ps : List (Str × Str)) (ts : List Addr), σ = [some (V.ref p), some (V.int 12), some (V.ref q), v3, some (V.int bent), some (V.ref b), v6, v7] ∧ Row H2 p ∧ But p H H2 ∧ Lists H2 q b ns ps ts ∧ ps.length = i
theorem ok_web {f fD fN : Addr} {fd fdD fdN : FuncData} (F : Fun K "_law_web" "_law_web" sWeb f fd) (D : Df K mg "_law_draw" sDraw ["_law_row", "_law_many"] fD fdD) (DN : Df K mg "_law_name" sLName ["_law_row", "_law_taken"] fN fdN) (T : Glb mg) : FnOk P w K mg base CX0 3 f fd ["_law_row", "_law_most"] spWeb := by
  have G : FnOk P w K mg base CX0 1 fD fdD ["_law_row", "_law_many"] spDraw := ok_draw D.fn T
  have GN : FnOk P w K mg base CX0 2 fN fdN ["_law_row", "_law_taken"] spLN := ok_lname DN.fn D T
  refine F.ok scWb (fun vs H Q E h => ?_) (fun cdv A outer s H vs Q E hr h => ?_)
  · obtain ⟨p, rfl, _⟩ := h
    rfl
  · obtain ⟨p, rfl, hp, k⟩ := h
    have h1 := hr.mono (j := 1) (by decide)
    refine ⟨_, pss_cons (ps_set (i := 2) scWb.nd rfl (Or.inl rfl) (pe_lst pa_nil))
      (pss_cons (ps_for PassesOwn.never rfl (pi_range1 rfl T.range (pa_cons (pe_op op_add pe_int (pe_call G h1 rfl D.mgf D.fn.kp D.b .nil pass0 (pa_cons (pv 0) (pa_cons (pv 1) pa_nil)))) pa_nil)) (pg_name (i := 3) scWb.nd rfl (Or.inl rfl))
        (pss_one (ps_expr (pe_bm PySem.F.plainAttrs_list PySem.F.slot_list_append PySem.F.type_list_append mt_append (pv 2) (pa_cons (pe_call GN hr rfl DN.mgf DN.fn.kp DN.b .nil pass0 (pa_cons (pv 0) (pa_cons (pv 2) pa_nil))) pa_nil)))))
      (pss_cons (ps_set (i := 4) scWb.nd rfl (Or.inl rfl) (pe_call G h1 rfl D.mgf D.fn.kp D.b .nil pass0 (pa_cons (pv 0) (pa_cons pe_int pa_nil))))
      (pss_cons (ps_set (i := 5) scWb.nd rfl (Or.inl rfl) (pe_lst pa_nil))
      (pss_cons (ps_for PassesOwn.never rfl (pi_range1 rfl T.range (pa_cons (pe_call G h1 rfl D.mgf D.fn.kp D.b .nil pass0 (pa_cons (pv 0) (pa_cons pe_int pa_nil))) pa_nil)) (pg_name (i := 3) scWb.nd rfl (Or.inl rfl))
        (pss_cons (ps_set (i := 6) scWb.nd rfl (Or.inl rfl) (pe_call G h1 rfl D.mgf D.fn.kp D.b .nil pass0 (pa_cons (pv 0) (pa_cons (pe_callB call_len_seq (by rfl) T.len PySem.boot_len (pa_cons (pv 2) pa_nil)) pa_nil))))
        (pss_cons (ps_set (i := 7) scWb.nd rfl (Or.inl rfl) (pe_call G h1 rfl D.mgf D.fn.kp D.b .nil pass0 (pa_cons (pv 0) (pa_cons (pe_callB call_len_seq (by rfl) T.len PySem.boot_len (pa_cons (pv 2) pa_nil)) pa_nil))))
        (pss_cons (ps_if (PW.pt (pw_and (pt_cmpR op_gt (pv 4) pe_int (nomark _)) (pw_and (pt_cmpR op_gt (pv 6) (pv 7) (nomark _)) (pw_and1 (pt_cmpR op_gt (pe_call G h1 rfl D.mgf D.fn.kp D.b .nil pass0 (pa_cons (pv 0) (pa_cons (pe_op op_mul pe_int (pv 4)) pa_nil))) pe_int (nomark _))))))
          (pss_one (ps_par rfl scWb.nd rfl rfl (i := 6) (j := 7) (by decide) rfl rfl (pa_cons (pv 7) (pa_cons (pv 6) pa_nil)) rfl)) pss_nil)
        (pss_one (ps_expr (pe_bm PySem.F.plainAttrs_list PySem.F.slot_list_append PySem.F.type_list_append mt_append (pv 5) (pa_cons (pe_tup (pa_cons (pe_ix ix_list (pv 2) (pv 6) (fun _ _ => rfl)) (pa_cons (pe_ix ix_list (pv 2) (pv 7) (fun _ _ => rfl)) pa_nil))) pa_nil)))))))
        )
      (pss_one (ps_ret (pe_tup (pa_cons (pv 2) (pa_cons (pv 5) pa_nil))))))))), ?_⟩
    refine ⟨(by decide), fun q hq => ?_⟩
    have npq : p ≠ q := ne_of_none hp.lst.choose_spec hq
    refine ⟨_, rfl, _, rfl, p, 12, rfl, hp.upd_ne npq, by decide, by decide, fun d1 H1 d1a d1b hp1 b1 => ?_⟩
    refine ⟨_, _, rfl, rfl, _, rfl, by omega, by omega, ?_⟩
    have b1' : But p H H1 := fun c o e n => b1 c o (by rw [L2.upd_ne (ne_of_none e hq)]; exact e) n
    refine for_range (WI1 p q H) ⟨_, [], rfl, hp1, b1', b1 _ _ upd_same (Ne.symm npq), rfl, (fun _ z => nomatch z), List.nodup_nil⟩ ?_ ?_
    · rintro i σ H2 hi ⟨v3, ns, rfl, hp2, b2, hq2, hl, hn, nd⟩
      refine ⟨_, rfl, .inl ⟨rfl, _, SqL.of hq2⟩, _, rfl, _, rfl, p, q, ns, rfl, hp2, hq2, by omega, fun z H3 hz nz hp3 b3 => ?_⟩
      have hq3 := b3 _ _ hq2 (Ne.symm npq)
      refine ⟨q, _, _, rfl, rfl, hq3, (by rw [List.length_map, hl]; exact small1000 (by omega)), ?_⟩
      refine ⟨_, ns ++ [z], rfl, hp3.upd_ne npq, (b2.trans b3).upd_new hq, ?_, by simp [hl], ?_, ?_⟩
      · rw [upd_same]; simp
      · intro y hy
        rcases List.mem_append.mp hy with h | h
        · exact hn y h
        · rw [List.mem_singleton.mp h]; exact hz
      · exact nd_snoc nd nz
    · rintro σ H2 ⟨v3, ns, rfl, hp2, b2, hq2, hl, hn, nd⟩
      refine ⟨_, rfl, p, 4, rfl, hp2, by decide, by decide, fun bent H3 _ bnt hp3 b3 => ?_⟩
      have hq3 := b3 _ _ hq2 (Ne.symm npq)
      have b03 := b2.trans b3
      refine ⟨(by decide), fun b hb => ?_⟩
      have nqb : q ≠ b := ne_of_none hq3 hb
      have npb : p ≠ b := ne_of_none hp3.lst.choose_spec hb
      have Hb : H b = none := by
        cases e : H b with
        | none => rfl
        | some o => exact absurd (b03 _ _ e (Ne.symm npb)) (by rw [hb]; intro z; cases z)
      have good : GoodP ns := ⟨by omega, by omega, hn, nd⟩
      refine ⟨_, rfl, p, 31, rfl, hp3.upd_ne npb, by decide, by decide, fun d2 H4 d2a d2b hp4 b4 => ?_⟩
      have b04 : But p H H4 := fun c o e n => b4 c o (by rw [L2.upd_ne (ne_of_none e Hb)]; exact b03 c o e n) n
      have hq4 := b4 q _ (by rw [L2.upd_ne nqb]; exact hq3) (Ne.symm npq)
      have hb4 := b4 b _ upd_same (Ne.symm npb)
      refine ⟨_, rfl, by omega, by omega, ?_⟩
      refine for_range (WI2 p q b H ns bent) ⟨_, _, _, [], [], rfl, hp4, b04, ⟨hq4, hb4, .nil, good, (fun _ z => nomatch z), by decide⟩, rfl⟩ ?_ ?_
      · rintro i σ H5 hi ⟨v3, v6, v7, ps, ts, rfl, hp5, b5, L5, hl5⟩
        have hlen : ((ns.map V.str).length : Int) = ns.length := by rw [List.length_map]
        have lpos : (0 : Int) < ns.length := by have := good.one; omega
        have lbig : (ns.length : Int) < 2 ^ 64 := by have := good.few; omega
        refine ⟨_, rfl, _, rfl, q, _, rfl, .inl (SqL.of L5.ha), p, _, rfl, hp5, by rw [hlen]; exact lpos, by rw [hlen]; exact lbig, fun one H6 o1 o2 hp6 b6 => ?_⟩
        have L6 := But.lists L5 b6 hp5.lst (Ne.symm npq) (Ne.symm npb)
        refine ⟨_, rfl, _, rfl, q, _, rfl, .inl (SqL.of L6.ha), p, _, rfl, hp6, by rw [hlen]; exact lpos, by rw [hlen]; exact lbig, fun oth H7 t1 t2 hp7 b7 => ?_⟩
        have L7 := But.lists L6 b7 hp6.lst (Ne.symm npq) (Ne.symm npb)
        rw [hlen] at o2 t2
        have b57 : But p H H7 := (b5.trans b6).trans b7
        -- behind the test
        have fin : ∀ (D : Ends), D.nx = WI2 p q b H ns bent (i + 1) → ∀ (x y : Int) (H8 : Hp), 0 ≤ x → x < ns.length → 0 ≤ y → y < ns.length → Row H8 p → But p H H8 → Lists H8 q b ns ps ts →
            tDrop (tBM K "list" rAppend (tVar 5) (tCons (tTup (tCons (tOp (rIxL K) (tVar 2) (tVar 6)) (tCons (tOp (rIxL K) (tVar 2) (tVar 7)) tNil))) tNil)) D
              [some (V.ref p), some (V.int 12), some (V.ref q), some (V.int (0 + i)), some (V.int bent), some (V.ref b), some (V.int x), some (V.int y)] H8 := by
          intro D0 hD x y H8 x1 x2 y1 y2 hp8 b8 L8
          obtain ⟨m, rfl⟩ := Int.eq_ofNat_of_zero_le x1
          obtain ⟨n, rfl⟩ := Int.eq_ofNat_of_zero_le y1
          have hm : m < ns.length := by omega
          have hn' : n < ns.length := by omega
          refine ⟨_, rfl, .inl ⟨rfl, _, SqL.of L8.hb⟩, _, rfl, _, rfl, q, _, _, _, rfl, rfl, SqL.of L8.ha, atI_nat (j := m) (v := .str ns[m]) (by simp [hm]), _, rfl, _, rfl, q, _, _, _, rfl, rfl, SqL.of L8.ha, atI_nat (j := n) (v := .str ns[n]) (by simp [hn']), (by show 2 ≤ sizeLine; decide), fun t ht => ?_⟩
          have L9 := L8.same (same_upd (o := .tup [.str ns[m], .str ns[n]]) ht)
          have lts : ts.length = i := by rw [L8.hT.len, hl5]
          refine ⟨b, _, _, rfl, rfl, L9.hb, (by rw [List.length_map, lts]; exact small1000 (by omega)), ?_⟩
          rw [hD]
          have npt : p ≠ t := ne_of_none hp8.lst.choose_spec ht
          have Ht : H t = none := by
            cases e : H t with
            | none => rfl
            | some o => exact absurd (b8 _ _ e (Ne.symm npt)) (by rw [ht]; intro z; cases z)
          refine ⟨_, _, _, ps ++ [(ns[m], ns[n])], ts ++ [t], rfl, (hp8.upd_ne npt).upd_ne npb, (b8.upd_new Ht).upd_new Hb, ⟨?_, ?_, ?_, good, ?_, ?_⟩, by simp [hl5]⟩
          · rw [L2.upd_ne nqb]; exact L9.ha
          · rw [upd_same]; simp
          · refine TiesAt.snoc (L9.hT.mono fun t' xs e => ?_) ?_
            · rw [L2.upd_ne (ne_of e L9.hb (by intro z; cases z))]; exact e
            · rw [L2.upd_ne (ne_of upd_same L9.hb (by intro z; cases z))]; exact upd_same
          · intro z hz
            rcases List.mem_append.mp hz with h | h
            · exact L8.ins z h
            · rw [List.mem_singleton.mp h]; exact ⟨List.getElem_mem hm, List.getElem_mem hn'⟩
          · rw [List.length_append, hl5]; simp; omega
        refine ⟨_, rfl, _, _, rfl, rfl, _, rfl, ?_⟩
        refine ite2 (fun hb1 => ?_) (fun _ => fin _ rfl one oth H7 o1 o2 t1 t2 hp7 b57 L7)
        refine ⟨_, rfl, _, rfl, _, _, rfl, rfl, _, rfl, ?_⟩
        refine ite2 (fun hb2 => ?_) (fun _ => fin _ rfl one oth H7 o1 o2 t1 t2 hp7 b57 L7)
        have bpos : 0 < bent := by simpa using hb1
        refine ⟨_, rfl, _, rfl, _, _, rfl, rfl, .inl ⟨by decide, by decide⟩, p, _, rfl, hp7, by omega, by omega, fun d3 H8 _ _ hp8 b8 => ?_⟩
        have L8 := But.lists L7 b8 hp7.lst (Ne.symm npq) (Ne.symm npb)
        refine ⟨_, _, rfl, rfl, _, rfl, ?_⟩
        refine ite2 (fun _ => ?_) (fun _ => fin _ rfl one oth H8 o1 o2 t1 t2 hp8 (b57.trans b8) L8)
        exact ⟨_, rfl, _, rfl, _, _, rfl, fin _ rfl oth one H8 t1 t2 o1 o2 hp8 (b57.trans b8) L8⟩
      · rintro σ H5 ⟨v3, v6, v7, ps, ts, rfl, hp5, b5, L5, hl5⟩
        refine ⟨_, rfl, _, rfl, (by show 2 ≤ sizeLine; decide), fun t ht => ?_⟩
        have npt : p ≠ t := ne_of_none hp5.lst.choose_spec ht
        have Ht : H t = none := by
          cases e : H t with
          | none => rfl
          | some o => exact absurd (b5 _ _ e (Ne.symm npt)) (by rw [ht]; intro z; cases z)
        exact k t q b ns ps ts _ (L5.same (same_upd ht)) upd_same hq Hb Ht nqb (hp5.upd_ne npt) (b5.upd_new Ht)
end
end K15

set_option Elab.async false
set_option linter.all false
set_option maxRecDepth 100000
set_option maxHeartbeats 4000000
namespace K15
open PySem PySem.Spec PyProof.Rows L2
abbrev sChkPl : Stmt := top 18 -- check_place
theorem Same.upd_new {H H1 : Hp} {q : Addr} {o : HO} (s : Same H H1) (hq : H q = none) : Same H (upd H1 q o) := fun b u e => by rw [L2.upd_ne (ne_of_none e hq)]; exact s b u e
theorem Same.but {H H1 H2 : Hp} {p : Addr} (s : Same H H1) (b : But p H1 H2) (hp : H p = none) : Same H H2 := fun c u e => b c u (s c u e) (ne_of_none e hp)
theorem But.upd (H : Hp) (q : Addr) (o : HO) : But q H (upd H q o) := fun c u e n => by rw [L2.upd_ne n]; exact e
theorem low {A : Around} {k : Nat} (n : Nat) (hr : Room k A) (h : n ≤ 63 := by decide) : A.units + n + 1 < cLine := by have := hr.units; omega
/-- the methods places and ties, as the class has them -/
structure Mt (K : PySem.W.Frag) (mg : Str → Option Value) (C fP fS : Addr) (fdP fdS : FuncData) : Prop where
  wc : WC K mg C
  pF : Fun K "places" "Web.places" sPlaces fP fdP
  pM : Meth K C "places" fP
  pB : Binds K fdP ["self"] []
  sF : Fun K "ties" "Web.ties" sTies fS fdS
  sM : Meth K C "ties" fS
  sB : Binds K fdS ["self"] []
theorem TyOf.same {K : PySem.W.Frag} {H H' : Hp} (s : Same H H') {y : V} {t : Value} (h : TyOf K H y t) : TyOf K H' y t := by
  cases h with
  | non => exact .non
  | bl x => exact .bl x
  | int i => exact .int i
  | str x => exact .str x
  | flt x => exact .flt x
  | lst e => exact .lst (s _ _ e)
  | frz e => exact .frz (s _ _ e)
  | tup e => exact .tup (s _ _ e)
  | dK e => exact .dK (s _ _ e)
  | dT e => exact .dT (s _ _ e)
  | ins e c d f g h => exact .ins (s _ _ e) c d f g h
theorem WebObj.meth {C x : Addr} {H : Hp} {ns : List Str} {ps : List (Str × Str)} (h : WebObj C H x ns ps) (m : Str) (e1 : (m == ("kept_places" : Str)) = false := by decide +kernel) (e2 : (m == ("kept_ties" : Str)) = false := by decide +kernel) : ∃ dx fs, H x = some (.ins C dx fs) ∧ fs.lookup m = none := by
  obtain ⟨dx, kp, kt, us, q, _⟩ := h
  exact ⟨dx, _, q, wf_no kp kt m e1 e2⟩
/-- what is no place -/
def NoPl (K : PySem.W.Frag) (H : Hp) (ns : List Str) (y : V) : Prop := (∃ z, y = .str z ∧ z ∉ ns) ∨ ∃ t, TyOf K H y t ∧ PySem.W.kitOne K t (.type "str") = some false
theorem NoPl.same {K : PySem.W.Frag} {H H' : Hp} {ns : List Str} {y : V} (h : NoPl K H ns y) (s : Same H H') : NoPl K H' ns y := h.imp id fun ⟨t, ty, e⟩ => ⟨t, TyOf.same s ty, e⟩
section
variable {P : Program} {w : World} {K : PySem.W.Frag} {mg : Str → Option Value} {base : Heap}
def spChkPl (C E2 : Addr) : Sp := fun vs H Q R => ∃ (x : Addr) (ns : List Str) (ps : List (Str × Str)) (y : V), vs = [.ref x, y] ∧ WebObj C H x ns ps ∧
  ((∃ z, y = .str z ∧ z ∈ ns ∧ ∀ H', Same H H' → Q .non H') ∨ (NoPl K H ns y ∧ ∀ H', Same H H' → R (.ref E2) none H'))
theorem scCk : FnScope ["web", "place"] ["web", "place"] (defScope sChkPl) := ⟨rfl, rfl, rfl, by decide +kernel, rfl, by decide +kernel, by decide +kernel⟩
theorem ok_chkPl {C E2 f fP fS fA : Addr} {fd fdP fdS fdA : FuncData} (F : Fun K "check_place" "check_place" sChkPl f fd) (M : Mt K mg C fP fS fdP fdS) (DA : Df K mg "is_among" sAmong ["places", "thing"] fA fdA) (X2 : Ex K mg "NoPlace" E2) (T : Glb mg) :
    FnOk P w K mg base (CXO P w) 2 f fd ["web", "place"] (spChkPl (K := K) C E2) := by
  have GA : FnOk P w K mg base CX0 1 fA fdA ["places", "thing"] (spAmong (K := K)) := ok_among DA.fn T
  have GP : FnOk P w K mg base CX0 1 fP fdP ["self"] (spPl C) := ok_places M.pF M.wc T
  refine F.okO scCk (fun vs H Q E h => ?_) (fun cdv A outer s H vs Q E hr h => ?_)
  · obtain ⟨x, ns, ps, y, rfl, _⟩ := h
    rfl
  · obtain ⟨x, ns, ps, y, rfl, hW, h⟩ := h
    obtain ⟨Bn, newId, initId, bm, q, FB⟩ := X2.bm
    refine ⟨_, pss_one (ps_if (pt_not (pt_val (pe_call GA hr rfl DA.mgf DA.fn.kp DA.b .nil pass0 (pa_cons (pe_meth0 (pv 0) M.wc.cl M.pM GP hr M.pB .nil pass0) (pa_cons (pv 1) pa_nil))) (fun _ => rfl))) (pss_one (ps_raise rfl X2.b q FB (pa_cons pe_str pa_nil))) pss_nil), ?_⟩
    obtain ⟨d1, f1, q1, r1⟩ := hW.meth "places"
    refine ⟨_, rfl, x, d1, f1, rfl, q1, r1, x, ns, ps, rfl, hW, fun l hl => ⟨_, rfl, ?_⟩⟩
    have sl := same_upd (o := .lst ((srt ns).map V.str)) hl
    rcases h with ⟨z, rfl, hz, k⟩ | ⟨no, k⟩
    · refine .inl ⟨l, srt ns, z, rfl, SqL.of upd_same, _, rfl, ?_⟩
      rw [decide_eq_true (srt_mem.mpr hz)]
      exact iteF (k _ sl)
    · rcases no with ⟨z, rfl, nz⟩ | ⟨t, ty, e⟩
      · refine .inl ⟨l, srt ns, z, rfl, SqL.of upd_same, _, rfl, ?_⟩
        rw [decide_eq_false fun h => nz (srt_mem.mp h)]
        exact iteT ⟨by decide, k _ sl⟩
      · refine .inr ⟨l, y, t, rfl, TyOf.same sl ty, e, _, rfl, ?_⟩
        exact iteT ⟨by decide, k _ sl⟩
structure GoodW (ns : List Str) (ps : List (Str × Str)) : Prop where
  good : GoodP ns
  ins : InP ns ps
  few : ps.length ≤ 30
theorem GoodW.inS {ns : List Str} {ps : List (Str × Str)} (g : GoodW ns ps) : InP (srt ns) ps := fun p hp => ⟨srt_mem.mpr (g.ins p hp).1, srt_mem.mpr (g.ins p hp).2⟩
end
abbrev sCame : Stmt := top 20 -- came_by
abbrev sWay : Stmt := top 21 -- way
abbrev sRounds : Stmt := top 27 -- _law_rounds
abbrev sRight : Stmt := top 28 -- _law_right
end K15

set_option Elab.async false
set_option linter.all false
set_option maxRecDepth 100000
set_option maxHeartbeats 4000000
namespace K15
open PySem PySem.Spec PyProof.Rows L2
section
variable {P : Program} {w : World} {K : PySem.W.Frag} {mg : Str → Option Value} {base : Heap}
/-- what came_by keeps of a place -/
def Cv (ps : List (Str × Str)) (a z : Str) (v : V) : Prop := (z = a ∧ v = .non) ∨ ∃ n k : Nat, v = .int k ∧ Lv ps a (n + 1) z ∧ First ps a n k z
/-- the dict of came_by at d -/
structure Came (H : Hp) (d : Addr) (ps : List (Str × Str)) (a : Str) (recs : List (Str × V)) : Prop where
  hd : H d = some (.dK (tabV recs))
  nd : (recs.map (·.1)).Nodup
  mem : ∀ z, z ∈ recs.map (·.1) ↔ Rch ps a z
  ok : ∀ z v, (z, v) ∈ recs → Cv ps a z v
def spCame (C : Addr) : Sp := fun vs H Q _ => ∃ (x : Addr) (a : Str) (ns : List Str) (ps : List (Str × Str)), vs = [.ref x, .str a] ∧ WebObj C H x ns ps ∧ GoodW ns ps ∧ a ∈ ns ∧ ∀ (d : Addr) (recs : List (Str × V)) (H' : Hp), Came H' d ps a recs → Same H H' → Q (.ref d) H'
abbrev nCa : List Str := ["web", "start", "came", "ahead", "found", "k", "a", "b"]
theorem scCa : FnScope nCa ["web", "start"] (defScope sCame) := ⟨rfl, rfl, rfl, by decide +kernel, rfl, by decide +kernel, by decide +kernel⟩
def CaW (x cd : Addr) (a : Str) (ns : List Str) (ps : List (Str × Str)) (H : Hp) (m : Nat) (σ : L2.St) (H2 : Hp) : Prop :=
  ∃ (ah : Addr) (v4 v5 v6 v7 : Option V) (r : Nat) (recs : List (Str × V)) (ed : List Str), σ = [some (.ref x), some (.str a), some (.ref cd), some (.ref ah), v4, v5, v6, v7] ∧ Same H H2 ∧ H2 cd = some (.dK (tabV recs)) ∧ H2 ah = some (.lst (ed.map V.str)) ∧
    Bf ns ps a r (recs.map (·.1)) ed ∧ (∀ z v, (z, v) ∈ recs → Cv ps a z v) ∧ m = 2 * (ns.length - recs.length) + (if ed.isEmpty then 0 else 1)
theorem ok_came {C f fP fS : Addr} {fd fdP fdS : FuncData} (F : Fun K "came_by" "came_by" sCame f fd) (M : Mt K mg C fP fS fdP fdS) (T : Glb mg) (hE : mg "enumerate" = none) : FnOk P w K mg base CX0 2 f fd ["web", "start"] (spCame C) := by
  have GT : FnOk P w K mg base CX0 1 fS fdS ["self"] (spTs C) := ok_ties M.sF M.wc T
  refine F.ok scCa (fun vs H Q E h => ?_) (fun cdv A outer s H vs Q E hr h => ?_)
  · obtain ⟨x, a, ns, ps, rfl, _⟩ := h
    rfl
  · obtain ⟨x, a, ns, ps, rfl, hW, g, ha, k⟩ := h
    have hu := hu_of hr
    refine ⟨_, pss_cons (ps_set (i := 2) scCa.nd rfl (Or.inl rfl) (pe_disp (pps_cons (pv 1) pe_non pps_nil) rfl rfl (by intro z; cases z) (by decide)))
      (pss_cons (ps_set (i := 3) scCa.nd rfl (Or.inl rfl) (pe_lst (pa_cons (pv 1) pa_nil)))
      (pss_cons (ps_while PassesOwn.never (pt_truth (pv 3) (fun _ => rfl))
        (pss_cons (ps_set (i := 4) scCa.nd rfl (Or.inl rfl) (pe_lst pa_nil))
        (pss_cons (ps_for PassesOwn.never rfl (pi_enum rfl hE (pa_cons (pe_meth0 (pv 0) M.wc.cl M.sM GT hr M.sB .nil pass0) pa_nil))
            (pg_tup rfl (pgs_cons (pg_name (i := 5) scCa.nd rfl (Or.inl rfl)) (pgs_cons (pg_tup rfl (pgs_cons (pg_name (i := 6) scCa.nd rfl (Or.inl rfl)) (pgs_cons (pg_name (i := 7) scCa.nd rfl (Or.inl rfl)) pgs_nil))) pgs_nil)))
          (pss_one (ps_if (PW.pt (pw_and (pt_cmpR op_in_seq (pv 6) (pv 3) rfl) (pw_and1 (pt_cmp (pc_dnotin hu (pv 7) (pv 2))))))
            (pss_cons (ps_dput hu (pv 2) (pv 7) (pv 5) rfl)
            (pss_one (ps_expr (pe_bm PySem.F.plainAttrs_list PySem.F.slot_list_append PySem.F.type_list_append mt_append (pv 4) (pa_cons (pv 7) pa_nil))))) pss_nil)))
        (pss_one (ps_set (i := 3) scCa.nd rfl (Or.inl rfl) (pv 4))))))
      (pss_one (ps_ret (pv 2))))), ?_⟩
    intro cd hcd
    refine ⟨_, rfl, upd_same, [(Sum.inr a, V.non)], rfl, (by show 1 ≤ 15; decide), ?_⟩
    rw [upd_upd, show mergeK [] [((Sum.inr a : Key), V.non)] = tabV [(a, V.non)] from rfl]
    have s1 := same_upd (o := .dK (tabV [(a, V.non)])) hcd
    have hcd1 := upd_same (H := H) (a := cd) (o := .dK (tabV [(a, V.non)]))
    generalize upd H cd (.dK (tabV [(a, V.non)])) = H1 at s1 hcd1 ⊢
    refine ⟨_, rfl, (by show 1 ≤ sizeLine; decide), fun ah hah => ?_⟩
    have few : ns.length ≤ 12 := g.good.few
    refine ⟨CaW x cd a ns ps H, ⟨_, ah, _, _, _, _, 0, [(a, V.non)], [a], rfl, s1.trans (same_upd hah), by rw [upd_ne (ne_of_none hcd1 hah)]; exact hcd1, upd_same, Bf.start ha, fun z v h => ?_, rfl⟩, ?_⟩
    · have := List.mem_singleton.mp h
      cases this
      exact .inl ⟨rfl, rfl⟩
    rintro m σ H2 ⟨ah, v4, v5, v6, v7, r, recs, ed, rfl, s2, hcd2, hah2, B, ok, rfl⟩
    have rle : recs.length ≤ ns.length := by have := nd_le B.nd B.sub; rw [List.length_map] at this; exact this
    refine ⟨_, rfl, _, .inl ⟨_, SqL.of hah2, rfl⟩, ?_⟩
    refine ite2 (fun hne => ?_) (fun hem => ?_)
    · have edn : ed.isEmpty = false := by
        cases ed with
        | nil => simp at hne
        | cons _ _ => rfl
      refine ⟨fun σ' H' => ∃ m', m' < 2 * (ns.length - recs.length) + (if ed.isEmpty then 0 else 1) ∧ CaW x cd a ns ps H m' σ' H', fun σ' H' h => h, ?_⟩
      refine ⟨(by decide), fun fo hfo => ?_⟩
      have s3 := s2.trans (same_upd (o := .lst []) hfo)
      have hfo0 : H fo = none := s2.free hfo
      have hcd3 : (upd H2 fo (.lst [])) cd = some (.dK (tabV recs)) := by rw [upd_ne (ne_of_none hcd2 hfo)]; exact hcd2
      have hah3 : (upd H2 fo (.lst [])) ah = some (.lst (ed.map V.str)) := by rw [upd_ne (ne_of_none hah2 hfo)]; exact hah2
      have hfo3 := upd_same (H := H2) (a := fo) (o := .lst [])
      have naf : ah ≠ fo := ne_of_none hah2 hfo
      generalize upd H2 fo (.lst []) = H3 at s3 hcd3 hah3 hfo3 ⊢
      have W3 := hW.same s3
      obtain ⟨d1, f1, q1, r1⟩ := W3.meth "ties"
      refine ⟨_, rfl, x, d1, f1, rfl, q1, r1, x, ns, ps, rfl, W3, fun l us hl hU => ?_⟩
      have sl := same_upd (o := .lst (us.map V.ref)) hl
      have hl0 : H l = none := s3.free hl
      have nlf : l ≠ fo := Ne.symm (ne_of_none hfo3 hl)
      refine ⟨l, rfl, ⟨_, SqL.of upd_same⟩, for_enum (K := K) (xs := us.map V.ref) (fun i σ H4 => ∃ (v5 v6 v7 : Option V) (nr : List (Str × V)) (nw : List Str), σ = [some (.ref x), some (.str a), some (.ref cd), some (.ref ah), some (.ref fo), v5, v6, v7] ∧ Same H H4 ∧ H4 l = some (.lst (us.map V.ref)) ∧ TiesAt H4 us ps ∧
          H4 cd = some (.dK (tabV (recs ++ nr))) ∧ H4 ah = some (.lst (ed.map V.str)) ∧ H4 fo = some (.lst (nw.map V.str)) ∧ nr.map (·.1) = nw ∧ Bt ns ps a r (recs.map (·.1)) i nw ∧ (∀ z v, (z, v) ∈ recs ++ nr → Cv ps a z v))
        ⟨_, _, _, [], [], rfl, s3.trans sl, upd_same, hU.same sl, by rw [List.append_nil]; exact sl _ _ hcd3, sl _ _ hah3, sl _ _ hfo3, rfl, B.begin, by rw [List.append_nil]; exact ok⟩ ?_ ?_ ?_⟩
      · rintro i σ H4 _ ⟨_, _, _, _, _, rfl, _, hl4, _⟩
        exact SqL.of hl4
      · rintro i y σ H4 q hy ⟨v5, v6, v7, nr, nw, rfl, s4, hl4, T4, hcd4, hah4, hfo4, enr, Bt4, ok4⟩ hq
        rw [List.getElem?_map] at hy
        obtain ⟨u, eu, rfl⟩ := Option.map_eq_some_iff.mp hy
        have sq := same_upd (o := .tup [.int i, .ref u]) hq
        obtain ⟨pr, ep, hpr⟩ := T4.get eu
        have T5 := T4.same sq
        have hq5 := upd_same (H := H4) (a := q) (o := .tup [.int i, .ref u])
        have s5 := s4.trans sq
        have hl5 := sq _ _ hl4
        have hcd5 := sq _ _ hcd4
        have hah5 := sq _ _ hah4
        have hfo5 := sq _ _ hfo4
        have hpr5 := sq _ _ hpr
        generalize upd H4 q (.tup [.int i, .ref u]) = H5 at hq5 s5 hl5 T5 hcd5 hah5 hfo5 hpr5 ⊢
        refine ⟨q, _, rfl, SqT.of hq5, rfl, _, _, rfl, _, _, rfl, u, _, rfl, SqT.of hpr5, rfl, _, _, rfl, _, _, rfl, rfl, rfl, ?_⟩
        have ndk : ((recs ++ nr).map (·.1)).Nodup := by rw [List.map_append, enr]; exact Bt4.nd
        have ekk : (recs ++ nr).map (·.1) = recs.map (·.1) ++ nw := by rw [List.map_append, enr]
        refine ⟨_, rfl, _, rfl, ah, _, rfl, .inl (SqL.of hah5), rfl, flat_strs ed, _, rfl, ?_⟩
        simp only [Bool.false_eq_true, if_false]
        rw [inV_str]
        refine ite2 (fun h1 => ?_) (fun h1 => ?_)
        · have h1' : pr.1 ∈ ed := by simpa using h1
          refine ⟨_, rfl, _, rfl, cd, _, rfl, DGet.k (k := Sum.inr pr.2) hcd5, _, rfl, ?_⟩
          rw [tabV_has ndk, ekk]
          by_cases h2 : pr.2 ∈ recs.map (·.1) ++ nw
          · rw [decide_eq_true h2]
            exact iteF ⟨_, _, _, nr, nw, rfl, s5, hl5, T5, hcd5, hah5, hfo5, enr, Bt4.skip B ep fun _ => h2, ok4⟩
          · rw [decide_eq_false h2]
            have B5 := Bt4.more B g.ins ep h1' h2
            have lens : (recs ++ nr).length ≤ 12 := by
              have := nd_le Bt4.nd Bt4.sub
              rw [← ekk, List.length_map] at this
              omega
            have nwl : nw.length ≤ 12 := by
              rw [← enr, List.length_map]
              rw [List.length_append] at lens
              omega
            refine iteT ⟨_, rfl, _, rfl, _, rfl, cd, _, rfl, DPut.k (k := Sum.inr pr.2) hcd5 (by rw [tabV_len]; exact small1000 (by omega)), ?_⟩
            rw [tabV_put (by rw [ekk]; exact h2)]
            have nfc : fo ≠ cd := ne_of hfo5 hcd5 (by intro z; cases z)
            have hfo6 : (upd H5 cd (.dK (tabV (recs ++ nr ++ [(pr.2, .int i)])))) fo = some (.lst (nw.map V.str)) := by rw [upd_ne nfc]; exact hfo5
            refine ⟨_, rfl, .inl ⟨rfl, _, SqL.of hfo6⟩, _, rfl, fo, _, _, rfl, rfl, hfo6, (by rw [List.length_map]; exact small1000 (by omega)), ?_⟩
            have nlc : l ≠ cd := ne_of hl5 hcd5 (by intro z; cases z)
            have nac : ah ≠ cd := ne_of hah5 hcd5 (by intro z; cases z)
            refine ⟨_, _, _, nr ++ [(pr.2, .int i)], nw ++ [pr.2], rfl, Same.upd_new (Same.upd_new s5 hcd) hfo0, ?_, ?_, ?_, ?_, ?_, ?_, B5, ?_⟩
            · rw [upd_ne nlf, upd_ne nlc]; exact hl5
            · refine T5.mono fun t xs e => ?_
              rw [upd_ne (ne_of e hfo5 (by intro z; cases z)), upd_ne (ne_of e hcd5 (by intro z; cases z))]; exact e
            · rw [upd_ne (Ne.symm nfc), upd_same, List.append_assoc]
            · rw [upd_ne naf, upd_ne nac]; exact hah5
            · rw [upd_same]; simp
            · rw [List.map_append, enr]; rfl
            · intro z v hz
              rw [← List.append_assoc] at hz
              rcases List.mem_append.mp hz with e | e
              · exact ok4 z v e
              · have e' := List.mem_singleton.mp e
                cases e'
                exact .inr ⟨r, i, rfl, B5.lv _ (List.mem_append_right _ (List.mem_singleton.mpr rfl)), Bt4.first B ep h1' h2⟩
        · have h1' : pr.1 ∉ ed := by simpa using h1
          exact ⟨_, _, _, nr, nw, rfl, s5, hl5, T5, hcd5, hah5, hfo5, enr, Bt4.skip B ep fun q => absurd q h1', ok4⟩
      · rintro σ H4 ⟨v5, v6, v7, nr, nw, rfl, s4, hl4, T4, hcd4, hah4, hfo4, enr, Bt4, ok4⟩
        rw [List.length_map, hU.len] at Bt4
        have ekk : (recs ++ nr).map (·.1) = recs.map (·.1) ++ nw := by rw [List.map_append, enr]
        have B6 := Bt4.finish B (Nat.le_refl _)
        have lens : (recs ++ nr).length ≤ ns.length := by
          have := nd_le Bt4.nd Bt4.sub
          rw [← ekk, List.length_map] at this
          exact this
        refine ⟨_, rfl, _, ?_, fo, _, _, _, _, r + 1, recs ++ nr, nw, rfl, s4, hcd4, hfo4, by rw [ekk]; exact B6, ok4, rfl⟩
        rw [edn, List.length_append] at *
        have : nr.length = nw.length := by rw [← enr, List.length_map]
        cases nw with
        | nil => simp at this ⊢; subst this; simp
        | cons c r' => simp at this ⊢; omega
    · have he : ed = [] := by
        cases ed with
        | nil => rfl
        | cons x r => simp at hem
      subst he
      exact ⟨_, rfl, k cd recs H2 ⟨hcd2, B.nd, B.all, ok⟩ s2⟩
end
end K15

set_option Elab.async false
set_option linter.all false
set_option maxRecDepth 100000
set_option maxHeartbeats 4000000
namespace L2
open PySem PySem.Spec PyProof.Rows
theorem Lv.chain {ps : List (Str × Str)} {a : Str} : ∀ {n : Nat} {z : Str}, Lv ps a n z → ∃ l : List Str, l.Nodup ∧ l.length = n + 1 ∧ ∀ y ∈ l, ∃ m, m ≤ n ∧ Lv ps a m y
  | 0, z, h => ⟨[z], by simp, rfl, fun y hy => by rw [List.mem_singleton.mp hy]; exact ⟨0, Nat.le_refl _, h⟩⟩
  | n + 1, z, h => by
    obtain ⟨y, ly, _⟩ := h.pred
    obtain ⟨l, nd, len, all⟩ := Lv.chain ly
    refine ⟨z :: l, List.nodup_cons.mpr ⟨fun m => ?_, nd⟩, by rw [List.length_cons, len], fun u hu => ?_⟩
    · obtain ⟨k, le, lk⟩ := all z m
      have := h.uniq lk
      omega
    · rcases List.mem_cons.mp hu with e | e
      · rw [e]; exact ⟨n + 1, Nat.le_refl _, h⟩
      · obtain ⟨k, le, lk⟩ := all u e
        exact ⟨k, by omega, lk⟩
theorem Lv.few {ns : List Str} {ps : List (Str × Str)} {a z : Str} {n : Nat} (h : Lv ps a n z) (hi : ∀ p ∈ ps, p.1 ∈ ns ∧ p.2 ∈ ns) (ha : a ∈ ns) : n < ns.length := by
  obtain ⟨l, nd, len, all⟩ := h.chain
  have := nd_le nd fun y hy => let ⟨_, _, lk⟩ := all y hy; lk.rch.isin hi ha
  omega
end L2
namespace L2
open PySem PySem.Spec PyProof.Rows
theorem PS.nox {X : Cx} {st : Stmt} {t : TS} (h : PS X.nox st t) : PS X st t := fun pins s σ H D I hw =>
  wpAny_mono (h pins s σ H D (I.wish _) hw) (fun _ _ q => q.unwish) fun _ _ z => z.elim
end L2
namespace K15
open PySem PySem.Spec PyProof.Rows L2
def nums (l : List Nat) : List V := l.map fun (k : Nat) => V.int k
section
variable {P : Program} {w : World} {K : PySem.W.Frag} {mg : Str → Option Value} {base : Heap}
/-- the defs and methods that way leans on -/
structure Wd (K : PySem.W.Frag) (mg : Str → Option Value) (C E1 E2 fP fS fT fW fA fC fCa : Addr) (fdP fdS fdT fdW fdA fdC fdCa : FuncData) : Prop where
  m : Mt K mg C fP fS fdP fdS
  tF : Fun K "tie" "Web.tie" sTieM fT fdT
  tM : Meth K C "tie" fT
  tB : Binds K fdT ["self", "k"] []
  wh : Df K mg "is_whole" sWhole ["thing"] fW fdW
  a : Df K mg "is_among" sAmong ["places", "thing"] fA fdA
  c : Df K mg "check_place" sChkPl ["web", "place"] fC fdC
  ca : Df K mg "came_by" sCame ["web", "start"] fCa fdCa
  x1 : Ex K mg "NoTie" E1
  x2 : Ex K mg "NoPlace" E2
  en : mg "enumerate" = none
def spWay (C E2 : Addr) : Sp := fun vs H Q R => ∃ (x : Addr) (ns : List Str) (ps : List (Str × Str)) (y1 y2 : V), vs = [.ref x, y1, y2] ∧ WebObj C H x ns ps ∧ GoodW ns ps ∧
  ((∃ a z, y1 = .str a ∧ y2 = .str z ∧ a ∈ ns ∧ z ∈ ns ∧ (∀ H', ¬ Rch ps a z → Same H H' → Q .non H') ∧ ∀ (l : Addr) (bk : List Nat) (H' : Hp), TW ps a bk z → H l = none → H' l = some (.lst (nums bk.reverse)) → Same H H' → Q (.ref l) H') ∨
   ((NoPl K H ns y1 ∨ ((∃ a, y1 = .str a ∧ a ∈ ns) ∧ NoPl K H ns y2)) ∧ ∀ H', Same H H' → R (.ref E2) none H'))
abbrev nWy : List Str := ["web", "one", "other", "came", "back", "place"]
theorem scWy : FnScope nWy ["web", "one", "other"] (defScope sWay) := ⟨rfl, rfl, rfl, by decide +kernel, rfl, by decide +kernel, by decide +kernel⟩
def WyW (x cd ba : Addr) (a z : Str) (ps : List (Str × Str)) (recs : List (Str × V)) (H : Hp) (m : Nat) (σ : L2.St) (H2 : Hp) : Prop :=
  ∃ (bk : List Nat) (u : Str), σ = [some (.ref x), some (.str a), some (.str z), some (.ref cd), some (.ref ba), some (.str u)] ∧ Same H H2 ∧ H2 ba = some (.lst (nums bk)) ∧ Came H2 cd ps a recs ∧ Lv ps a m u ∧ (∀ tl, TW ps a tl u → TW ps a (bk ++ tl) z) ∧ bk.length + m ≤ 12
theorem ok_way {C E1 E2 f fP fS fT fW fA fC fCa : Addr} {fd fdP fdS fdT fdW fdA fdC fdCa : FuncData} (F : Fun K "way" "way" sWay f fd) (D : Wd K mg C E1 E2 fP fS fT fW fA fC fCa fdP fdS fdT fdW fdA fdC fdCa) (T : Glb mg) : FnOk P w K mg base (CXO P w) 3 f fd ["web", "one", "other"] (spWay (K := K) C E2) := by
  have GC : FnOk P w K mg base (CXO P w) 2 fC fdC ["web", "place"] (spChkPl (K := K) C E2) := ok_chkPl D.c.fn D.m D.a D.x2 T
  have GCa : FnOk P w K mg base CX0 2 fCa fdCa ["web", "start"] (spCame C) := ok_came D.ca.fn D.m T D.en
  have GT : FnOk P w K mg base (CXO P w) 2 fT fdT ["self", "k"] (spTieM (K := K) C E1) := ok_tieM D.tF D.m.wc D.wh D.x1 T
  refine F.okO scWy (fun vs H Q E h => ?_) (fun cdv A outer s H vs Q E hr h => ?_)
  · obtain ⟨x, ns, ps, y1, y2, rfl, _⟩ := h
    rfl
  · obtain ⟨x, ns, ps, y1, y2, rfl, hW, g, h⟩ := h
    have hu := hu_of hr
    refine ⟨_, pss_cons (ps_expr (pe_call GC hr rfl D.c.mgf D.c.fn.kp D.c.b .nil passO (pa_cons (pv 0) (pa_cons (pv 1) pa_nil))))
      (pss_cons (ps_expr (pe_call GC hr rfl D.c.mgf D.c.fn.kp D.c.b .nil passO (pa_cons (pv 0) (pa_cons (pv 2) pa_nil))))
      (pss_cons (ps_set (i := 3) scWy.nd rfl (Or.inl rfl) (pe_call GCa hr rfl D.ca.mgf D.ca.fn.kp D.ca.b .nil pass0 (pa_cons (pv 0) (pa_cons (pv 1) pa_nil))))
      (pss_cons (ps_if (pt_cmp (pc_dnotin hu (pv 2) (pv 3))) (pss_one (ps_ret pe_non)) pss_nil)
      (pss_cons (ps_set (i := 4) scWy.nd rfl (Or.inl rfl) (pe_lst pa_nil))
      (pss_cons (ps_set (i := 5) scWy.nd rfl (Or.inl rfl) (pv 2))
      (pss_cons (PS.nox (ps_while PassesOwn.never (pt_cmpR op_notN (pe_dget hu (pv 3) (pv 5) (fun _ _ => rfl)) pe_non (nomark _))
        (pss_cons (ps_expr (pe_bm PySem.F.plainAttrs_list PySem.F.slot_list_append PySem.F.type_list_append mt_append (pv 4) (pa_cons (pe_dget hu (pv 3) (pv 5) (fun _ _ => rfl)) pa_nil)))
        (pss_one (ps_set (i := 5) scWy.nd rfl (Or.inl rfl) (pe_ix ix_tup (pe_meth (pv 0) D.m.wc.cl D.tM GT hr D.tB .nil passN (pa_cons (pe_dget hu (pv 3) (pv 5) (fun _ _ => rfl)) pa_nil)) pe_int (fun _ _ => rfl)))))))
      (pss_one (ps_ret (pe_rev (pv 4) (pe_un un_neg pe_int)))))))))), ?_⟩
    have cw : ∀ (H1 : Hp), Same H H1 → WebObj C H1 x ns ps := fun H1 s1 => hW.same s1
    rcases h with ⟨a, z, rfl, rfl, ha, hz, k0, k1⟩ | ⟨no, k⟩
    · refine ⟨_, rfl, _, rfl, x, ns, ps, _, rfl, hW, .inl ⟨a, rfl, ha, fun H1 s1 => ?_⟩⟩
      refine ⟨_, rfl, _, rfl, x, ns, ps, _, rfl, hW.same s1, .inl ⟨z, rfl, hz, fun H2 s2 => ?_⟩⟩
      have s12 := s1.trans s2
      refine ⟨_, rfl, _, rfl, x, a, ns, ps, rfl, hW.same s12, g, ha, fun cd recs H3 CA s3 => ?_⟩
      have s13 := s12.trans s3
      refine ⟨_, rfl, _, rfl, cd, _, rfl, DGet.k (k := Sum.inr z) CA.hd, _, rfl, ?_⟩
      rw [tabV_has CA.nd]
      by_cases hr' : Rch ps a z
      · rw [decide_eq_true ((CA.mem z).mpr hr')]
        refine iteF ⟨(by decide), fun ba hba => ⟨_, rfl, ?_⟩⟩
        have sb := same_upd (o := .lst []) hba
        have hba0 : H ba = none := s13.free hba
        obtain ⟨n0, l0⟩ := hr'.lv
        have n12 : n0 ≤ 12 := by have := l0.few g.ins ha; have := g.good.few; omega
        refine ⟨WyW x cd ba a z ps recs H, ⟨n0, [], z, rfl, s13.trans sb, upd_same, ⟨sb _ _ CA.hd, CA.nd, CA.mem, CA.ok⟩, l0, fun tl h => h, by simpa using n12⟩, ?_⟩
        rintro m σ H4 ⟨bk, u, rfl, s4, hba4, CA4, lu, cont, len⟩
        have hmem : u ∈ recs.map (·.1) := (CA4.mem u).mpr lu.rch
        obtain ⟨pr, hpr, epr⟩ := List.mem_map.mp hmem
        obtain ⟨u', v⟩ := pr
        cases epr
        have get := DGet.k (k := Sum.inr u') CA4.hd
        rw [tabV_at CA4.nd hpr] at get
        refine ⟨_, rfl, _, rfl, cd, _, rfl, get, rfl, _, rfl, ?_⟩
        rcases CA4.ok u' v hpr with ⟨rfl, rfl⟩ | ⟨n, kk, rfl, lz, y, ek, ly, fst⟩
        · refine ite2 (fun q => absurd q (by simp)) (fun _ => ?_)
          have fin := cont [] rfl
          rw [List.append_nil] at fin
          refine ⟨_, rfl, _, rfl, rfl, ba, _, rfl, SqL.of hba4, fun l hl => ?_⟩
          refine k1 l bk _ fin (s4.free hl) ?_ (s4.trans (same_upd hl))
          rw [upd_same]
          simp [nums]
        · refine ite2 (fun _ => ?_) (fun q => absurd q (by simp))
          have em : m = n + 1 := lu.uniq lz
          subst em
          refine ⟨fun σ' H' => ∃ m', m' < n + 1 ∧ WyW x cd ba a z ps recs H m' σ' H', fun σ' H' h => h, ?_⟩
          refine ⟨_, rfl, .inl ⟨rfl, _, SqL.of hba4⟩, _, rfl, _, rfl, cd, _, rfl, get, ba, _, _, rfl, rfl, hba4, (by simp only [nums, List.length_map]; exact small1000 (by omega)), ?_⟩
          have ncb : cd ≠ ba := ne_of CA4.hd hba4 (by intro z; cases z)
          have s5 : Same H (upd H4 ba (.lst (nums bk ++ [.int kk]))) := Same.upd_new s4 hba0
          have hba5 := upd_same (H := H4) (a := ba) (o := .lst (nums bk ++ [.int kk]))
          have CA5 : Came (upd H4 ba (.lst (nums bk ++ [.int kk]))) cd ps a recs := ⟨by rw [upd_ne ncb]; exact CA4.hd, CA4.nd, CA4.mem, CA4.ok⟩
          generalize upd H4 ba (.lst (nums bk ++ [.int kk])) = H5 at s5 hba5 CA5 ⊢
          have W5 := hW.same s5
          obtain ⟨d1, f1, q1, r1⟩ := W5.meth "tie"
          have get5 := DGet.k (k := Sum.inr u') CA5.hd
          rw [tabV_at CA5.nd hpr] at get5
          refine ⟨_, rfl, x, d1, f1, rfl, q1, r1, _, rfl, _, rfl, cd, _, rfl, get5, x, ns, ps, _, rfl, W5, .inl ⟨kk, _, rfl, ek, fun t ht => ?_⟩⟩
          refine ⟨t, _, _, _, rfl, rfl, SqT.of ht, atI_nat (j := 0) rfl, n, Nat.lt_succ_self _, bk ++ [kk], y, rfl, s5, ?_, CA5, ly, fun tl h => ?_, ?_⟩
          · rw [hba5]; simp [nums]
          · rw [List.append_assoc]
            exact cont _ ⟨n, y, lz, ⟨y, ek, ly, fst⟩, ek, h⟩
          · rw [List.length_append, List.length_singleton]; omega
      · rw [decide_eq_false fun h => hr' ((CA.mem z).mp h)]
        exact iteT (k0 H3 hr' s13)
    · rcases no with n1 | ⟨⟨a, rfl, ha⟩, n2⟩
      · exact ⟨_, rfl, _, rfl, x, ns, ps, _, rfl, hW, .inr ⟨n1, k⟩⟩
      · refine ⟨_, rfl, _, rfl, x, ns, ps, _, rfl, hW, .inl ⟨a, rfl, ha, fun H1 s1 => ?_⟩⟩
        exact ⟨_, rfl, _, rfl, x, ns, ps, _, rfl, hW.same s1, .inr ⟨n2.same s1, fun H' s' => k H' (s1.trans s')⟩⟩
end
end K15

set_option Elab.async false
set_option linter.all false
set_option maxRecDepth 100000
set_option maxHeartbeats 4000000
namespace K15
open PySem PySem.Spec PyProof.Rows L2
section
variable {P : Program} {w : World} {K : PySem.W.Frag} {mg : Str → Option Value} {base : Heap}
/-! ### the law's rounds -/
structure Rds (H : Hp) (d : Addr) (ps : List (Str × Str)) (a : Str) (recs : List (Str × V)) : Prop where
  hd : H d = some (.dK (tabV recs))
  nd : (recs.map (·.1)).Nodup
  mem : ∀ z, z ∈ recs.map (·.1) ↔ Rch ps a z
  ok : ∀ z v, (z, v) ∈ recs → ∃ n : Nat, v = .int n ∧ Lv ps a n z
def spRounds : Sp := fun vs H Q _ => ∃ (b : Addr) (a : Str) (ns : List Str) (ts : List Addr) (ps : List (Str × Str)), vs = [.ref b, .str a] ∧ H b = some (.lst (ts.map V.ref)) ∧ TiesAt H ts ps ∧ GoodW ns ps ∧ a ∈ ns ∧ ∀ (d : Addr) (recs : List (Str × V)) (H' : Hp), Rds H' d ps a recs → Same H H' → Q (.ref d) H'
abbrev nRo : List Str := ["_law_ties", "_law_place", "_law_far", "_law_edge", "_law_rounds_here", "_law_new", "_law_one", "_law_other"]
theorem scRo : FnScope nRo ["_law_ties", "_law_place"] (defScope sRounds) := ⟨rfl, rfl, rfl, by decide +kernel, rfl, by decide +kernel, by decide +kernel⟩
def RoW (b cd : Addr) (a : Str) (ns : List Str) (ps : List (Str × Str)) (H : Hp) (m : Nat) (σ : L2.St) (H2 : Hp) : Prop :=
  ∃ (ah : Addr) (v5 v6 v7 : Option V) (r : Nat) (recs : List (Str × V)) (ed : List Str), σ = [some (.ref b), some (.str a), some (.ref cd), some (.ref ah), some (.int r), v5, v6, v7] ∧ Same H H2 ∧ H2 cd = some (.dK (tabV recs)) ∧ H2 ah = some (.lst (ed.map V.str)) ∧
    Bf ns ps a r (recs.map (·.1)) ed ∧ (∀ z v, (z, v) ∈ recs → ∃ n : Nat, v = .int n ∧ Lv ps a n z) ∧ m = 2 * (ns.length - recs.length) + (if ed.isEmpty then 0 else 1)
theorem ok_rounds {f : Addr} {fd : FuncData} (F : Fun K "_law_rounds" "_law_rounds" sRounds f fd) (T : Glb mg) : FnOk P w K mg base CX0 1 f fd ["_law_ties", "_law_place"] spRounds := by
  refine F.ok scRo (fun vs H Q E h => ?_) (fun cdv A outer s H vs Q E hr h => ?_)
  · obtain ⟨b, a, ns, ts, ps, rfl, _⟩ := h
    rfl
  · obtain ⟨b, a, ns, ts, ps, rfl, hb, hT, g, ha, k⟩ := h
    have hu := hu_of hr
    refine ⟨_, pss_cons (ps_set (i := 2) scRo.nd rfl (Or.inl rfl) (pe_disp (pps_cons (pv 1) pe_int pps_nil) rfl rfl (by intro z; cases z) (by decide)))
      (pss_cons (ps_set (i := 3) scRo.nd rfl (Or.inl rfl) (pe_lst (pa_cons (pv 1) pa_nil)))
      (pss_cons (ps_set (i := 4) scRo.nd rfl (Or.inl rfl) pe_int)
      (pss_cons (ps_while PassesOwn.never (pt_cmpR (OpR.or (op_ne_al 0 (low 0 hr)) (op_ne_len hu)) (pv 3) (pe_lst pa_nil) (nomark _))
        (pss_cons (ps_set (i := 4) scRo.nd rfl (Or.inl rfl) (pe_op op_add (pv 4) pe_int))
        (pss_cons (ps_set (i := 5) scRo.nd rfl (Or.inl rfl) (pe_lst pa_nil))
        (pss_cons (ps_for PassesOwn.never rfl (pi_list (pv 0)) (pg_tup rfl (pgs_cons (pg_name (i := 6) scRo.nd rfl (Or.inl rfl)) (pgs_cons (pg_name (i := 7) scRo.nd rfl (Or.inl rfl)) pgs_nil)))
          (pss_one (ps_if (PW.pt (pw_and (pt_cmpR op_in_seq (pv 6) (pv 3) rfl) (pw_and1 (pt_cmp (pc_dnotin hu (pv 7) (pv 2))))))
            (pss_cons (ps_dput hu (pv 2) (pv 7) (pv 4) rfl)
            (pss_one (ps_expr (pe_bm PySem.F.plainAttrs_list PySem.F.slot_list_append PySem.F.type_list_append mt_append (pv 5) (pa_cons (pv 7) pa_nil))))) pss_nil)))
        (pss_one (ps_set (i := 3) scRo.nd rfl (Or.inl rfl) (pv 5)))))))
      (pss_one (ps_ret (pv 2)))))), ?_⟩
    intro cd hcd
    refine ⟨_, rfl, upd_same, [(Sum.inr a, V.int 0)], rfl, (by show 1 ≤ 15; decide), ?_⟩
    rw [upd_upd, show mergeK [] [((Sum.inr a : Key), V.int 0)] = tabV [(a, V.int 0)] from rfl]
    have s1 := same_upd (o := .dK (tabV [(a, V.int 0)])) hcd
    have hcd1 := upd_same (H := H) (a := cd) (o := .dK (tabV [(a, V.int 0)]))
    generalize upd H cd (.dK (tabV [(a, V.int 0)])) = H1 at s1 hcd1 ⊢
    refine ⟨_, rfl, (by show 1 ≤ sizeLine; decide), fun ah hah => ?_⟩
    have few : ns.length ≤ 12 := g.good.few
    refine ⟨RoW b cd a ns ps H, ⟨_, ah, _, _, _, 0, [(a, V.int 0)], [a], rfl, s1.trans (same_upd hah), by rw [upd_ne (ne_of_none hcd1 hah)]; exact hcd1, upd_same, Bf.start ha, fun z v h => ?_, rfl⟩, ?_⟩
    · have := List.mem_singleton.mp h
      cases this
      exact ⟨0, rfl, lv0⟩
    rintro m σ H2 ⟨ah, v5, v6, v7, r, recs, ed, rfl, s2, hcd2, hah2, B, ok, rfl⟩
    have rle : recs.length ≤ ns.length := by have := nd_le B.nd B.sub; rw [List.length_map] at this; exact this
    refine ⟨_, rfl, (by decide), fun em hem0 => ?_⟩
    have se := same_upd (o := .lst []) hem0
    have s2' := s2.trans se
    have hcd2' := se _ _ hcd2
    have hah2' := se _ _ hah2
    have hem1 := upd_same (H := H2) (a := em) (o := .lst [])
    generalize upd H2 em (.lst []) = H2' at s2' hcd2' hah2' hem1 ⊢
    cases ed with
    | nil =>
      refine .inl ⟨⟨ah, em, [], [], rfl, rfl, .inl ⟨SqL.of hah2', SqL.of hem1⟩, rfl, fun i x y e => by simp at e⟩, _, rfl, iteF ?_⟩
      exact ⟨_, rfl, k cd recs H2' ⟨hcd2', B.nd, B.all, ok⟩ s2'⟩
    | cons e0 er =>
      refine .inr ⟨ah, em, _, _, rfl, rfl, SqL.of hah2', SqL.of hem1, by simp, _, rfl, iteT ?_⟩
      generalize hed : e0 :: er = ed at B hah2' ⊢
      have edn : ed.isEmpty = false := by rw [← hed]; rfl
      refine ⟨fun σ' H' => ∃ m', m' < 2 * (ns.length - recs.length) + (if ed.isEmpty then 0 else 1) ∧ RoW b cd a ns ps H m' σ' H', fun σ' H' h => h, ?_⟩
      refine ⟨_, rfl, _, _, rfl, rfl, (by decide), fun fo hfo => ?_⟩
      have s3 := s2'.trans (same_upd (o := .lst []) hfo)
      have hfo0 : H fo = none := s2'.free hfo
      have hcd3 : (upd H2' fo (.lst [])) cd = some (.dK (tabV recs)) := by rw [upd_ne (ne_of_none hcd2' hfo)]; exact hcd2'
      have hah3 : (upd H2' fo (.lst [])) ah = some (.lst (ed.map V.str)) := by rw [upd_ne (ne_of_none hah2' hfo)]; exact hah2'
      have hfo3 := upd_same (H := H2') (a := fo) (o := .lst [])
      have naf : ah ≠ fo := ne_of_none hah2' hfo
      generalize upd H2' fo (.lst []) = H3 at s3 hcd3 hah3 hfo3 ⊢
      refine ⟨_, rfl, b, rfl, ⟨_, SqL.of (s3 _ _ hb)⟩, for_list (K := K) (xs := ts.map V.ref) (fun i σ H4 => ∃ (v6 v7 : Option V) (nr : List (Str × V)) (nw : List Str), σ = [some (.ref b), some (.str a), some (.ref cd), some (.ref ah), some (.int (r + 1)), some (.ref fo), v6, v7] ∧ Same H H4 ∧
          H4 cd = some (.dK (tabV (recs ++ nr))) ∧ H4 ah = some (.lst (ed.map V.str)) ∧ H4 fo = some (.lst (nw.map V.str)) ∧ nr.map (·.1) = nw ∧ Bt ns ps a r (recs.map (·.1)) i nw ∧ (∀ z v, (z, v) ∈ recs ++ nr → ∃ n : Nat, v = .int n ∧ Lv ps a n z))
        ⟨_, _, [], [], rfl, s3, by rw [List.append_nil]; exact hcd3, hah3, hfo3, rfl, B.begin, by rw [List.append_nil]; exact ok⟩ ?_ ?_ ?_⟩
      · rintro i σ H4 _ ⟨_, _, _, _, rfl, s4, _⟩
        exact SqL.of (s4 _ _ hb)
      · rintro i y σ H4 hy ⟨v6, v7, nr, nw, rfl, s4, hcd4, hah4, hfo4, enr, Bt4, ok4⟩
        rw [List.getElem?_map] at hy
        obtain ⟨u, eu, rfl⟩ := Option.map_eq_some_iff.mp hy
        obtain ⟨pr, ep, hpr⟩ := hT.get eu
        refine ⟨u, _, rfl, SqT.of (s4 _ _ hpr), rfl, _, _, rfl, _, _, rfl, rfl, ?_⟩
        have ndk : ((recs ++ nr).map (·.1)).Nodup := by rw [List.map_append, enr]; exact Bt4.nd
        have ekk : (recs ++ nr).map (·.1) = recs.map (·.1) ++ nw := by rw [List.map_append, enr]
        refine ⟨_, rfl, _, rfl, ah, _, rfl, .inl (SqL.of hah4), rfl, flat_strs ed, _, rfl, ?_⟩
        simp only [Bool.false_eq_true, if_false]
        rw [inV_str]
        refine ite2 (fun h1 => ?_) (fun h1 => ?_)
        · have h1' : pr.1 ∈ ed := by simpa using h1
          refine ⟨_, rfl, _, rfl, cd, _, rfl, DGet.k (k := Sum.inr pr.2) hcd4, _, rfl, ?_⟩
          rw [tabV_has ndk, ekk]
          by_cases h2 : pr.2 ∈ recs.map (·.1) ++ nw
          · rw [decide_eq_true h2]
            exact iteF ⟨_, _, nr, nw, rfl, s4, hcd4, hah4, hfo4, enr, Bt4.skip B ep fun _ => h2, ok4⟩
          · rw [decide_eq_false h2]
            have B5 := Bt4.more B g.ins ep h1' h2
            have lens : (recs ++ nr).length ≤ 12 := by
              have := nd_le Bt4.nd Bt4.sub
              rw [← ekk, List.length_map] at this
              omega
            have nwl : nw.length ≤ 12 := by
              rw [← enr, List.length_map]
              rw [List.length_append] at lens
              omega
            refine iteT ⟨_, rfl, _, rfl, _, rfl, cd, _, rfl, DPut.k (k := Sum.inr pr.2) hcd4 (by rw [tabV_len]; exact small1000 (by omega)), ?_⟩
            rw [tabV_put (by rw [ekk]; exact h2)]
            have nfc : fo ≠ cd := ne_of hfo4 hcd4 (by intro z; cases z)
            have hfo6 : (upd H4 cd (.dK (tabV (recs ++ nr ++ [(pr.2, .int (r + 1))])))) fo = some (.lst (nw.map V.str)) := by rw [upd_ne nfc]; exact hfo4
            refine ⟨_, rfl, .inl ⟨rfl, _, SqL.of hfo6⟩, _, rfl, fo, _, _, rfl, rfl, hfo6, (by rw [List.length_map]; exact small1000 (by omega)), ?_⟩
            have nac : ah ≠ cd := ne_of hah4 hcd4 (by intro z; cases z)
            refine ⟨_, _, nr ++ [(pr.2, .int (r + 1))], nw ++ [pr.2], rfl, Same.upd_new (Same.upd_new s4 hcd) hfo0, ?_, ?_, ?_, ?_, B5, ?_⟩
            · rw [upd_ne (Ne.symm nfc), upd_same, List.append_assoc]
            · rw [upd_ne naf, upd_ne nac]; exact hah4
            · rw [upd_same]; simp
            · rw [List.map_append, enr]; rfl
            · intro z v hz
              rw [← List.append_assoc] at hz
              rcases List.mem_append.mp hz with e | e
              · exact ok4 z v e
              · have e' := List.mem_singleton.mp e
                cases e'
                exact ⟨r + 1, rfl, B5.lv _ (List.mem_append_right _ (List.mem_singleton.mpr rfl))⟩
        · have h1' : pr.1 ∉ ed := by simpa using h1
          exact ⟨_, _, nr, nw, rfl, s4, hcd4, hah4, hfo4, enr, Bt4.skip B ep fun q => absurd q h1', ok4⟩
      · rintro σ H4 ⟨v6, v7, nr, nw, rfl, s4, hcd4, hah4, hfo4, enr, Bt4, ok4⟩
        rw [List.length_map, hT.len] at Bt4
        have ekk : (recs ++ nr).map (·.1) = recs.map (·.1) ++ nw := by rw [List.map_append, enr]
        have B6 := Bt4.finish B (Nat.le_refl _)
        have lens : (recs ++ nr).length ≤ ns.length := by
          have := nd_le Bt4.nd Bt4.sub
          rw [← ekk, List.length_map] at this
          exact this
        refine ⟨_, rfl, _, ?_, fo, _, _, _, r + 1, recs ++ nr, nw, rfl, s4, hcd4, hfo4, by rw [ekk]; exact B6, ok4, rfl⟩
        rw [edn, List.length_append] at *
        have : nr.length = nw.length := by rw [← enr, List.length_map]
        cases nw with
        | nil => simp at this ⊢; subst this; simp
        | cons c r' => simp at this ⊢; omega
end
end K15

set_option Elab.async false
set_option linter.all false
set_option maxRecDepth 100000
set_option maxHeartbeats 4000000
namespace K15
open PySem PySem.Spec PyProof.Rows L2
/-! ### texts that are no names -/
theorem lo_iff {c : Nat} : lo c = true ↔ 97 ≤ c := by
  unfold lo
  rw [Bool.not_eq_true', decide_eq_false_iff_not]
  show ¬ [c] < ("a" : Str).cps.toList ↔ _
  have e : ("a" : Str).cps.toList = [97] := by decide +kernel
  rw [e]
  constructor
  · intro h
    rcases Nat.lt_or_ge c 97 with q | q
    · exact absurd (List.Lex.rel q) h
    · exact q
  · intro h q
    cases q with
    | rel z => omega
    | cons z => cases z
theorem hi_iff {c : Nat} : hi c = true ↔ c ≤ 122 := by
  unfold hi
  rw [Bool.not_eq_true', decide_eq_false_iff_not]
  show ¬ ("z" : Str).cps.toList < [c] ↔ _
  have e : ("z" : Str).cps.toList = [122] := by decide +kernel
  rw [e]
  constructor
  · intro h
    rcases Nat.lt_or_ge 122 c with q | q
    · exact absurd (List.Lex.rel q) h
    · exact q
  · intro h q
    cases q with
    | rel z => omega
    | cons z => cases z
theorem nm_all {z : Str} (h : nm z = true) {c : Nat} (hc : c ∈ z.cps.toList) : 97 ≤ c ∧ c ≤ 122 := by
  unfold nm at h
  simp only [Bool.and_eq_true, List.all_map, List.all_eq_true] at h
  have := h.2 c hc
  simp only [Function.comp, id, Bool.and_eq_true] at this
  exact ⟨lo_iff.mp this.1, hi_iff.mp this.2⟩
theorem nm_pos {z : Str} (h : nm z = true) : 1 ≤ z.length := by
  unfold nm at h
  simp only [Bool.and_eq_true, decide_eq_true_eq] at h
  exact h.1.1
theorem not_nm {z : Str} {c : Nat} (hc : c ∈ z.cps.toList) (h : ¬ (97 ≤ c ∧ c ≤ 122)) : nm z = false := Bool.eq_false_iff.mpr fun q => h (nm_all q hc)
theorem nm_blank (z : Str) : nm (z ++ (" " : Str)) = false := by
  refine not_nm (c := 32) ?_ (by omega)
  have e : (" " : Str).cps.toList = [32] := by decide +kernel
  show 32 ∈ (z.cps ++ (" " : Str).cps).toList
  rw [Array.toList_append, e]
  simp
theorem nm_empty : nm "" = false := by decide +kernel
theorem GoodP.out {ns : List Str} (g : GoodP ns) {z : Str} (h : nm z = false) : z ∉ ns := fun m => by rw [g.nms z m] at h; cases h
theorem exm_mk {K : PySem.W.Frag} {t c : Value} (h1 : PySem.W.subIn K c (.type "BaseException") = some true) (h2 : PySem.W.kitOne K t c = some true) (h3 : (t == c) = false) : PySem.W.exmOne K t c = some true := by
  unfold PySem.W.exmOne
  unfold PySem.W.kitOne at h2
  rw [h3, if_neg Bool.false_ne_true] at h2
  rw [if_pos (by rw [h1]; rfl), h2]
theorem boot_VE : bootBuiltins "ValueError" = some (.type "ValueError") := by rfl
/-- the error classes that the law asks of -/
structure Errs (K : PySem.W.Frag) (mg : Str → Option Value) (E0 E1 E2 E3 : Addr) : Prop where
  b0 : mg "WebError" = some (.ref E0)
  x2 : Ex K mg "NoPlace" E2
  b1 : mg "NoTie" = some (.ref E1)
  b3 : mg "NoWeb" = some (.ref E3)
  ve : mg "ValueError" = none
  ex : PySem.W.exmOne K (.ref E2) (.ref E0) = some true
  k1 : PySem.W.kitOne K (.ref E2) (.ref E2) = some true
  k2 : PySem.W.kitOne K (.ref E2) (.type "ValueError") = some true
  k3 : PySem.W.kitAny K (.ref E2) [.ref E1, .ref E3] = some false
  xc : ExcCl K E2
def rIsT (K : PySem.W.Frag) : List V → Hp → VK → Prop := fun xs H Q => ∃ (a C tp : Addr) (cs : List V) (cvs : List Value) (b : Bool), xs = [.ref a, .ref tp] ∧ H tp = some (.tup cs) ∧ (∀ us, Vals cs us → us = cvs) ∧ H a = some (excO a (.ref C)) ∧ ExcCl K C ∧ PySem.W.kitAny K (.ref C) cvs = some b ∧ Q (.bl b) H
def rIsE (K : PySem.W.Frag) : List V → Hp → VK → Prop := fun xs H Q => ∃ (a C : Addr) (c : V) (cv : Value) (b : Bool), xs = [.ref a, c] ∧ (∀ u, RelV c u → u = cv) ∧ H a = some (excO a (.ref C)) ∧ ExcCl K C ∧ PySem.W.kitOne K (.ref C) cv = some b ∧ Q (.bl b) H
/-- what stands in a turn of the law: the web, the lists of which it was made, the row; all ahead of the turn as it was -/
structure Sit (C x p la lb : Addr) (zs : List Str) (ps : List (Str × Str)) (ts : List Addr) (H2 H : Hp) : Prop where
  W : WebObj C H x zs ps
  L : Lists H la lb zs ps ts
  row : Row H p
  s : Same H2 H
theorem Sit.same {C x p la lb : Addr} {zs : List Str} {ps : List (Str × Str)} {ts : List Addr} {H2 H H' : Hp} (S : Sit C x p la lb zs ps ts H2 H) (e : Same H H') : Sit C x p la lb zs ps ts H2 H' :=
  ⟨S.W.same e, S.L.same e, let ⟨a, b, q⟩ := S.row; ⟨a, b, e _ _ q⟩, S.s.trans e⟩
theorem Sit.good {C x p la lb : Addr} {zs : List Str} {ps : List (Str × Str)} {ts : List Addr} {H2 H : Hp} (S : Sit C x p la lb zs ps ts H2 H) : GoodW zs ps := ⟨S.L.good, S.L.ins, S.L.few⟩
theorem al_strs {K : PySem.W.Frag} {H : Hp} {p q : Addr} {zs : List Str} {n : Nat} (hp : SqL K H p (zs.map V.str)) (hq : SqL K H q (zs.map V.str)) : AlS K H n (.ref p) (.ref q) :=
  ⟨p, q, _, _, rfl, rfl, .inl ⟨hp, hq⟩, rfl, fun i a b ea eb => by
    rw [ea] at eb
    cases eb
    obtain ⟨z, _, rfl⟩ := List.mem_map.mp (List.mem_of_getElem? ea)
    exact Al.txt⟩
abbrev am : Str := "abcdefghijklm"
theorem am_size : am.cps.size = 13 := by decide +kernel
theorem am_nd : (am.cps.toList.map one).Nodup := by decide +kernel
theorem pl_non {K : PySem.W.Frag} {H : Hp} {ns : List Str} : NoPl K H ns .non := .inr ⟨_, .non, rfl⟩
theorem pl_int {K : PySem.W.Frag} {H : Hp} {ns : List Str} {i : Int} : NoPl K H ns (.int i) := .inr ⟨_, .int i, rfl⟩
theorem pl_bl {K : PySem.W.Frag} {H : Hp} {ns : List Str} {b : Bool} : NoPl K H ns (.bl b) := .inr ⟨_, .bl b, rfl⟩
theorem pl_lst {K : PySem.W.Frag} {H : Hp} {ns : List Str} {a : Addr} {xs : List V} (h : H a = some (.lst xs)) : NoPl K H ns (.ref a) := .inr ⟨_, .lst h, rfl⟩
theorem pl_tup {K : PySem.W.Frag} {H : Hp} {ns : List Str} {a : Addr} {xs : List V} (h : H a = some (.tup xs)) : NoPl K H ns (.ref a) := .inr ⟨_, .tup h, rfl⟩
theorem pl_dK {K : PySem.W.Frag} {H : Hp} {ns : List Str} {a : Addr} {xs : List (Key × V)} (h : H a = some (.dK xs)) : NoPl K H ns (.ref a) := .inr ⟨_, .dK h, rfl⟩
theorem pl_str {K : PySem.W.Frag} {H : Hp} {ns : List Str} {z : Str} (h : z ∉ ns) : NoPl K H ns (.str z) := .inl ⟨z, rfl, h⟩
theorem NoPl.but {K : PySem.W.Frag} {H H' : Hp} {p : Addr} {ns : List Str} {y : V} (h : NoPl K H ns y) (s : But p H H') (r : Row H p) (r' : Row H' p) : NoPl K H' ns y := by
  rcases h with q | ⟨t, ty, e⟩
  · exact .inl q
  · refine .inr ⟨t, ?_, e⟩
    obtain ⟨a, b, hp⟩ := r
    obtain ⟨a', b', hp'⟩ := r'
    have ne : ∀ {c : Addr} {o : HO}, H c = some o → (∀ xs, o ≠ .lst xs) → c ≠ p := fun {c o} q n z => by
      rw [z, hp] at q
      cases q
      exact n _ rfl
    cases ty with
    | non => exact .non
    | bl x => exact .bl x
    | int i => exact .int i
    | str x => exact .str x
    | flt x => exact .flt x
    | @lst c xs q =>
      by_cases hc : c = p
      · subst hc; exact .lst hp'
      · exact .lst (s _ _ q hc)
    | frz q => exact .frz (s _ _ q (ne q fun _ z => nomatch z))
    | tup q => exact .tup (s _ _ q (ne q fun _ z => nomatch z))
    | dK q => exact .dK (s _ _ q (ne q fun _ z => nomatch z))
    | dT q => exact .dT (s _ _ q (ne q fun _ z => nomatch z))
    | ins q c d f g h => exact .ins (s _ _ q (ne q fun _ z => nomatch z)) c d f g h

theorem al_flat {K : PySem.W.Frag} {H : Hp} {p q : Addr} {xs : List V} {n : Nat} (hx : ∀ x ∈ xs, flatV x = true) (hp : SqL K H p xs) (hq : SqL K H q xs) : AlS K H n (.ref p) (.ref q) :=
  ⟨p, q, _, _, rfl, rfl, .inl ⟨hp, hq⟩, rfl, fun i a b ea eb => by
    rw [ea] at eb
    cases eb
    have f := hx _ (List.mem_of_getElem? ea)
    cases n
    · exact ⟨f, rfl⟩
    · exact .inl ⟨f, rfl⟩⟩
theorem nums_flat (l : List Nat) : ∀ x ∈ nums l, flatV x = true := fun x hx => by
  obtain ⟨k, _, rfl⟩ := List.mem_map.mp hx
  rfl
section
variable {P : Program} {w : World} {K : PySem.W.Frag} {mg : Str → Option Value} {base : Heap}
def spRight (C : Addr) : Sp := fun vs H Q _ => ∃ (x b : Addr) (a z : Str) (ns : List Str) (ps : List (Str × Str)) (ts : List Addr), vs = [.ref x, .ref b, .str a, .str z] ∧ WebObj C H x ns ps ∧ GoodW ns ps ∧ H b = some (.lst (ts.map V.ref)) ∧ TiesAt H ts ps ∧ a ∈ ns ∧ z ∈ ns ∧ ∀ H', Same H H' → Q (.bl true) H'
abbrev nRi : List Str := ["_law_web_here", "_law_ties", "_law_one", "_law_other", "_law_far", "_law_found", "_law_here", "_law_k", "_law_kept"]
theorem scRi : FnScope nRi ["_law_web_here", "_law_ties", "_law_one", "_law_other"] (defScope sRight) := ⟨rfl, rfl, rfl, by decide +kernel, rfl, by decide +kernel, by decide +kernel⟩
theorem ok_right {C E1 E2 f fP fS fT fW fA fC fCa fWy fRo : Addr} {fd fdP fdS fdT fdW fdA fdC fdCa fdWy fdRo : FuncData} (F : Fun K "_law_right" "_law_right" sRight f fd) (D : Wd K mg C E1 E2 fP fS fT fW fA fC fCa fdP fdS fdT fdW fdA fdC fdCa)
    (DW : Df K mg "way" sWay ["web", "one", "other"] fWy fdWy) (DR : Df K mg "_law_rounds" sRounds ["_law_ties", "_law_place"] fRo fdRo) (T : Glb mg) : FnOk P w K mg base CX0 4 f fd ["_law_web_here", "_law_ties", "_law_one", "_law_other"] (spRight C) := by
  have GW : FnOk P w K mg base (CXO P w) 3 fWy fdWy ["web", "one", "other"] (spWay (K := K) C E2) := ok_way DW.fn D T
  have GR : FnOk P w K mg base CX0 1 fRo fdRo ["_law_ties", "_law_place"] spRounds := ok_rounds DR.fn T
  refine F.ok scRi (fun vs H Q E h => ?_) (fun cdv A outer s H vs Q E hr h => ?_)
  · obtain ⟨x, b, a, z, ns, ps, ts, rfl, _⟩ := h
    rfl
  · obtain ⟨x, b, a, z, ns, ps, ts, rfl, hW, g, hb, hT, ha, hz, k⟩ := h
    have hu := hu_of hr
    have h1 := hr.mono (j := 1) (by decide)
    refine ⟨_, pss_cons (ps_set (i := 4) scRi.nd rfl (Or.inl rfl) (pe_call GR h1 rfl DR.mgf DR.fn.kp DR.b .nil pass0 (pa_cons (pv 1) (pa_cons (pv 2) pa_nil))))
      (pss_cons (ps_set (i := 5) scRi.nd rfl (Or.inl rfl) (pe_call GW hr rfl DW.mgf DW.fn.kp DW.b .nil passN (pa_cons (pv 0) (pa_cons (pv 2) (pa_cons (pv 3) pa_nil)))))
      (pss_cons (ps_if (pt_cmp (pc_dnotin hu (pv 3) (pv 4))) (pss_one (ps_ret (pe_cmpR op_isN (pv 5) pe_non (nomark _)))) pss_nil)
      (pss_cons (ps_if (PW.pt (pw_or (pt_not (pt_val (pe_callB (call_isinst (T := "list")) (by rfl) T.isinst PyProof.Rows.boot_isinstance (pa_cons (pv 5) (pa_cons (pe_bltn (v := .ty "list") rfl T.list PyProof.Rows.boot_list rfl) pa_nil))) (fun _ => rfl)))
          (pw_or1 (pt_cmpR op_ne (pe_callB call_len_seq (by rfl) T.len PySem.boot_len (pa_cons (pv 5) pa_nil)) (pe_dget hu (pv 4) (pv 3) (fun _ _ => rfl)) (nomark _))))) (pss_one (ps_ret pe_bl)) pss_nil)
      (pss_cons (ps_set (i := 6) scRi.nd rfl (Or.inl rfl) (pv 2))
      (pss_cons (ps_for PassesOwn.never rfl (pi_list (pv 5)) (pg_name (i := 7) scRi.nd rfl (Or.inl rfl))
        (pss_cons (ps_if (PW.pt (pw_or (pt_not (pt_val (pe_callB (call_isinst (T := "int")) (by rfl) T.isinst PyProof.Rows.boot_isinstance (pa_cons (pv 7) (pa_cons (pe_bltn (v := .ty "int") rfl T.int PyProof.Rows.boot_int rfl) pa_nil))) (fun _ => rfl)))
            (pw_or (pt_val (pe_callB (call_isinst (T := "bool")) (by rfl) T.isinst PyProof.Rows.boot_isinstance (pa_cons (pv 7) (pa_cons (pe_bltn (v := .ty "bool") rfl T.bool PyProof.Rows.boot_bool rfl) pa_nil))) (fun _ => rfl))
            (pw_or (pt_cmpR op_lt (pv 7) pe_int (nomark _))
            (pw_or (pt_cmpR op_ge (pv 7) (pe_callB call_len_seq (by rfl) T.len PySem.boot_len (pa_cons (pv 1) pa_nil)) (nomark _))
            (pw_or1 (pt_cmpR op_ne (pe_ix ix_tup (pe_ix ix_list (pv 1) (pv 7) (fun _ _ => rfl)) pe_int (fun _ _ => rfl)) (pv 6) (nomark _)))))))) (pss_one (ps_ret pe_bl)) pss_nil)
        (pss_one (ps_set (i := 6) scRi.nd rfl (Or.inl rfl) (pe_ix ix_tup (pe_ix ix_list (pv 1) (pv 7) (fun _ _ => rfl)) pe_int (fun _ _ => rfl))))))
      (pss_cons (ps_set (i := 8) scRi.nd rfl (Or.inl rfl) (pe_callTy call_list_of (by rfl) T.list PyProof.Rows.boot_list (pa_cons (pv 5) pa_nil)))
      (pss_cons (ps_expr (pe_bm PySem.F.plainAttrs_list PySem.F.slot_list_append PySem.F.type_list_append mt_append (pv 5) (pa_cons pe_int pa_nil)))
      (pss_one (ps_ret (pe_and (pe_cmpR op_eq (pv 6) (pv 3) (nomark _)) (pe_one (pe_cmpR (op_eq_al 0 (low 0 hr)) (pe_call GW hr rfl DW.mgf DW.fn.kp DW.b .nil passN (pa_cons (pv 0) (pa_cons (pv 2) (pa_cons (pv 3) pa_nil)))) (pv 8) (nomark _))))))))))))), ?_⟩
    refine ⟨_, rfl, _, rfl, b, a, ns, ts, ps, rfl, hb, hT, g, ha, fun cd recs H1 RD s1 => ?_⟩
    refine ⟨_, rfl, _, rfl, _, rfl, x, ns, ps, _, _, rfl, hW.same s1, g, .inl ⟨a, z, rfl, rfl, ha, hz, fun H2 nr s2 => ?_, fun l bk H2 tw nl hl s2 => ?_⟩⟩
    · refine ⟨_, rfl, _, rfl, cd, _, rfl, DGet.k (k := Sum.inr z) (s2 _ _ RD.hd), _, rfl, ?_⟩
      rw [tabV_has RD.nd, decide_eq_false fun h => nr ((RD.mem z).mp h)]
      exact iteT ⟨_, rfl, rfl, k _ (s1.trans s2)⟩
    · have lz := tw.len
      have hmem : z ∈ recs.map (·.1) := (RD.mem z).mpr lz.rch
      obtain ⟨pr, hpr, epr⟩ := List.mem_map.mp hmem
      obtain ⟨z', v⟩ := pr
      cases epr
      obtain ⟨n, rfl, ln⟩ := RD.ok _ _ hpr
      have en : n = bk.length := ln.uniq lz
      subst en
      have get := DGet.k (k := Sum.inr z') (s2 _ _ RD.hd)
      refine ⟨_, rfl, _, rfl, cd, _, rfl, get, _, rfl, ?_⟩
      rw [tabV_has RD.nd, decide_eq_true hmem]
      rw [tabV_at RD.nd hpr] at get
      have s12 := s1.trans s2
      have lenb : (nums bk.reverse).length = bk.length := by simp [nums]
      refine iteF ⟨_, rfl, _, _, true, rfl, .lst hl, rfl, _, rfl, ?_⟩
      refine iteF ⟨_, rfl, l, _, rfl, .inl (SqL.of hl), _, rfl, _, rfl, cd, _, rfl, get, rfl, _, rfl, ?_⟩
      refine iteNS (by rw [lenb]) ?_
      refine ⟨_, rfl, _, rfl, l, rfl, ⟨_, SqL.of hl⟩, ?_⟩
      have wy := tw.way
      have n12 : bk.length ≤ 12 := by have := lz.few g.ins ha; have := g.good.few; omega
      refine for_list (K := K) (xs := nums bk.reverse) (fun i σ H3 => ∃ (v7 : Option V) (u : Str), σ = [some (.ref x), some (.ref b), some (.str a), some (.str z'), some (.ref cd), some (.ref l), some (.str u), v7, none] ∧ H3 = H2 ∧ IsWay ps (bk.reverse.drop i) u z') ⟨_, a, rfl, rfl, wy⟩ ?_ ?_ ?_
      · rintro i σ H3 _ ⟨v7, u, rfl, rfl, _⟩
        exact SqL.of hl
      · rintro i y σ H3 hy ⟨v7, u, rfl, rfl, wi⟩
        unfold nums at hy
        rw [List.getElem?_map] at hy
        obtain ⟨kk, ek, rfl⟩ := Option.map_eq_some_iff.mp hy
        have ed : bk.reverse.drop i = kk :: bk.reverse.drop (i + 1) := by
          obtain ⟨hi, e⟩ := List.getElem?_eq_some_iff.mp ek
          rw [List.drop_eq_getElem_cons hi, e]
        rw [ed] at wi
        obtain ⟨y', ey, wi'⟩ := wi
        have hk : kk < ps.length := (List.getElem?_eq_some_iff.mp ey).1
        have hkt : kk < ts.length := by rw [hT.len]; exact hk
        obtain ⟨p', ep, ht⟩ := (hT.same s12).get (List.getElem?_eq_getElem hkt)
        rw [ey] at ep
        cases ep
        have lt : ((ts.map V.ref).length : Int) = ps.length := by rw [List.length_map, hT.len]
        have gi := atI_nat (xs := ts.map V.ref) (j := kk) (v := .ref ts[kk]) (by rw [List.getElem?_map, List.getElem?_eq_getElem hkt]; rfl)
        refine ⟨_, rfl, _, _, true, rfl, .int _, rfl, _, rfl, ?_⟩
        refine iteF ⟨_, rfl, _, _, false, rfl, .int _, rfl, _, rfl, ?_⟩
        refine iteF ⟨_, rfl, _, _, rfl, rfl, _, rfl, ?_⟩
        refine ite2 (fun q => absurd q (by simp)) (fun _ => ?_)
        refine ⟨_, rfl, _, rfl, b, _, rfl, .inl (SqL.of (s12 _ _ hb)), _, _, rfl, rfl, _, rfl, ?_⟩
        rw [lt]
        refine ite2 (fun q => absurd q (by simp; omega)) (fun _ => ?_)
        refine ⟨_, rfl, _, rfl, b, _, _, _, rfl, rfl, SqL.of (s12 _ _ hb), gi, _, _, _, _, rfl, rfl, SqT.of ht, atI_nat (j := 0) rfl, _, rfl, rfl, _, rfl, ?_⟩
        refine iteNS rfl ?_
        refine ⟨_, rfl, _, rfl, b, _, _, _, rfl, rfl, SqL.of (s12 _ _ hb), gi, _, _, _, _, rfl, rfl, SqT.of ht, atI_nat (j := 1) rfl, ?_⟩
        exact ⟨_, y', rfl, rfl, wi'⟩
      · rintro σ H3 ⟨v7, u, rfl, rfl, wi⟩
        rw [lenb, List.drop_of_length_le (by simp)] at wi
        have eu : u = z' := wi
        subst eu
        refine ⟨_, rfl, l, _, rfl, .inl (SqL.of hl), fun kp hkp => ?_⟩
        have sk := same_upd (o := .lst (nums bk.reverse)) hkp
        have hlk := sk _ _ hl
        have nkl : kp ≠ l := Ne.symm (ne_of_none hl hkp)
        refine ⟨_, rfl, .inl ⟨rfl, _, SqL.of hlk⟩, l, _, _, rfl, rfl, hlk, (by rw [lenb]; exact small1000 (by omega)), ?_⟩
        have nl0 : H l = none := s1.free nl
        have s4 : Same H (upd (upd H3 kp (.lst (nums bk.reverse))) l (.lst (nums bk.reverse ++ [.int 0]))) := Same.upd_new (s12.trans sk) nl0
        have hkp4 : (upd (upd H3 kp (.lst (nums bk.reverse))) l (.lst (nums bk.reverse ++ [.int 0]))) kp = some (.lst (nums bk.reverse)) := by rw [upd_ne nkl, upd_same]
        generalize upd (upd H3 kp (.lst (nums bk.reverse))) l (.lst (nums bk.reverse ++ [.int 0])) = H4 at s4 hkp4 ⊢
        refine ⟨_, rfl, _, rfl, rfl, _, rfl, ?_⟩
        refine ite2 (fun _ => ?_) (fun q => absurd (by simp) q)
        refine ⟨_, rfl, _, rfl, _, rfl, x, ns, ps, _, _, rfl, hW.same s4, g, .inl ⟨a, u, rfl, rfl, ha, hz, fun H5 nr s5 => absurd lz.rch nr, fun l2 bk2 H5 tw2 nl2 hl2 s5 => ?_⟩⟩
        have eb := tw.uniq tw2
        subst eb
        exact ⟨_, rfl, al_flat (nums_flat _) (SqL.of hl2) (SqL.of (s5 _ _ hkp4)), k _ (s4.trans s5)⟩
end
end K15

set_option Elab.async false
set_option linter.all false
set_option maxRecDepth 100000
set_option maxHeartbeats 4000000
namespace K15
open PySem PySem.Spec PyProof.Rows L2
section
variable {P : Program} {w : World} {K : PySem.W.Frag} {mg : Str → Option Value} {base : Heap}
def spRef (C : Addr) : Sp := fun vs H Q _ => ∃ (x : Addr) (ns : List Str) (ps : List (Str × Str)) (y1 y2 : V), vs = [.ref x, y1, y2] ∧ WebObj C H x ns ps ∧ GoodW ns ps ∧ (NoPl K H ns y1 ∨ ((∃ a, y1 = .str a ∧ a ∈ ns) ∧ NoPl K H ns y2)) ∧ ∀ H', Same H H' → Q (.bl true) H'
abbrev nRf : List Str := ["_law_web_here", "_law_one", "_law_other", "_law_good", "e"]
theorem scRf : FnScope nRf ["_law_web_here", "_law_one", "_law_other"] (defScope sRef) := ⟨rfl, rfl, rfl, by decide +kernel, rfl, by decide +kernel, by decide +kernel⟩
theorem ok_ref {C f fP fS fT fW fA fC fCa fWy E0 E1 E2 E3 : Addr} {fd fdP fdS fdT fdW fdA fdC fdCa fdWy : FuncData} (F : Fun K "_law_refused" "_law_refused" sRef f fd) (D : Wd K mg C E1 E2 fP fS fT fW fA fC fCa fdP fdS fdT fdW fdA fdC fdCa)
    (DW : Df K mg "way" sWay ["web", "one", "other"] fWy fdWy) (X : Errs K mg E0 E1 E2 E3) (T : Glb mg) :
    FnOk P w K mg base CX0 4 f fd ["_law_web_here", "_law_one", "_law_other"] (spRef (K := K) C) := by
  have GW : FnOk P w K mg base (CXO P w) 3 fWy fdWy ["web", "one", "other"] (spWay (K := K) C E2) := ok_way DW.fn D T
  refine F.ok scRf (fun vs H Q E h => ?_) (fun cdv A outer s H vs Q E hr h => ?_)
  · obtain ⟨x, ns, ps, y1, y2, rfl, _⟩ := h
    rfl
  · obtain ⟨x, ns, ps, y1, y2, rfl, hW, g, no, k⟩ := h
    refine ⟨_, pss_cons (ps_set (i := 3) scRf.nd rfl (Or.inl rfl) pe_bl)
      (pss_cons (ps_try rfl rfl (pex_call GW hr rfl DW.mgf DW.fn.kp DW.b .nil (fun _ => pa_cons (pv 0) (pa_cons (pv 1) (pa_cons (pv 2) pa_nil)))) rfl X.b0 scRf.nd (i := 4) rfl rfl (fun _ => pss_one (ps_set (i := 3) scRf.nd rfl (Or.inl rfl)
        (pe_and (pe_callB (r := rIsE K) call_isinstE (by rfl) T.isinst PyProof.Rows.boot_isinstance (pa_cons (pv 4) (pa_cons (pe_glob (v := .ref E2) rfl X.x2.b rfl) pa_nil)))
          (pe_and (pe_callB (r := rIsE K) call_isinstE (by rfl) T.isinst PyProof.Rows.boot_isinstance (pa_cons (pv 4) (pa_cons (pe_bltn (v := .ty "ValueError") rfl X.ve boot_VE rfl) pa_nil)))
          (pe_one (pe_not (pe_callB (r := rIsT K) call_isinstT (by rfl) T.isinst PyProof.Rows.boot_isinstance (pa_cons (pv 4) (pa_cons (pe_tup (pa_cons (pe_glob (v := .ref E1) rfl X.b1 rfl) (pa_cons (pe_glob (v := .ref E3) rfl X.b3 rfl) pa_nil))) pa_nil))))))))))
      (pss_one (ps_ret (pv 3)))), ?_⟩
    refine ⟨_, rfl, _, rfl, _, rfl, x, ns, ps, y1, y2, rfl, hW, g, .inr ⟨no, fun H1 s1 => ⟨X.ex, fun a ha => ?_⟩⟩⟩
    have ha' := upd_same (H := H1) (a := a) (o := excO a (.ref E2))
    refine ⟨_, rfl, a, E2, _, .ref E2, true, rfl, (fun u r => r), ha', X.xc, X.k1, _, rfl, ?_⟩
    refine iteT ⟨_, rfl, a, E2, _, .type "ValueError", true, rfl, (fun u r => r), ha', X.xc, X.k2, _, rfl, ?_⟩
    refine iteT ⟨_, rfl, (by show 2 ≤ sizeLine; decide), fun tp htp => ?_⟩
    refine ⟨a, E2, tp, _, [.ref E1, .ref E3], false, rfl, upd_same, ?_, ?_, X.xc, X.k3, _, rfl, _, rfl, ?_⟩
    · intro us r
      obtain ⟨u, v, rfl, ru, rv⟩ := vals2 r
      cases ru
      cases rv
      rfl
    · rw [upd_ne (ne_of_none ha' htp)]; exact ha'
    · exact k _ (s1.trans ((same_upd ha).trans (same_upd htp)))
def spLaw (K : PySem.W.Frag) : Sp := fun vs H Q _ => ∃ (a : Addr) (ns : List Int), vs = [.ref a] ∧ SqL K H a (ns.map V.int) ∧ ns.length ≤ 63 ∧ ∀ H', Q (.bl true) H'
abbrev nL : List Str := ["_law_script", "_law_k", "_law_row", "_law_names", "_law_ties", "_law_web_here", "_law_j", "_law_one", "_law_none", "_law_odd"]
theorem scL : FnScope nL ["_law_script"] (defScope sLaw) := ⟨rfl, rfl, rfl, by decide +kernel, rfl, by decide +kernel, by decide +kernel⟩
theorem Sit.drawn {C x p la lb : Addr} {zs : List Str} {ps : List (Str × Str)} {ts : List Addr} {H2 H H' : Hp} (S : Sit C x p la lb zs ps ts H2 H) (b : But p H H') (r : Row H' p) (np : H2 p = none) (na : la ≠ p) (nb : lb ≠ p) : Sit C x p la lb zs ps ts H2 H' :=
  ⟨S.W.but b S.row.lst.choose_spec, But.lists S.L b S.row.lst na nb, r, Same.but S.s b np⟩
theorem ok_law {C f fR fD fLN fWb fN fTi f1 f2 fI fP fS fT fW fA fC fCa fWy fRo fRi fRf E0 E1 E2 E3 : Addr} {fd fdR fdD fdLN fdWb fdN fdTi fd1 fd2 fdI fdP fdS fdT fdW fdA fdC fdCa fdWy fdRo fdRi fdRf : FuncData} (F : Fun K "law" "law" sLaw f fd)
    (DR : Df K mg "_law_row_at" sRow ["_law_script", "_law_k"] fR fdR) (DD : Df K mg "_law_draw" sDraw ["_law_row", "_law_many"] fD fdD) (DLN : Df K mg "_law_name" sLName ["_law_row", "_law_taken"] fLN fdLN) (DWb : Df K mg "_law_web" sWeb ["_law_row", "_law_most"] fWb fdWb)
    (DN : Df K mg "is_name" sName ["thing"] fN fdN) (DT : Df K mg "is_tie" sTie ["places", "thing"] fTi fdTi) (D1 : Df K mg "check_places" sChkP ["places"] f1 fd1) (D2 : Df K mg "check_ties" sChkT ["places", "ties"] f2 fd2)
    (FI : Fun K "__init__" "Web.__init__" sInit fI fdI) (MkW : Mk K C fI) (bI : Binds K fdI ["self", "places", "ties"] []) (D : Wd K mg C E1 E2 fP fS fT fW fA fC fCa fdP fdS fdT fdW fdA fdC fdCa) (DW : Df K mg "way" sWay ["web", "one", "other"] fWy fdWy) (X : Errs K mg E0 E1 E2 E3)
    (DRo : Df K mg "_law_rounds" sRounds ["_law_ties", "_law_place"] fRo fdRo) (DRi : Df K mg "_law_right" sRight ["_law_web_here", "_law_ties", "_law_one", "_law_other"] fRi fdRi) (DRf : Df K mg "_law_refused" sRef ["_law_web_here", "_law_one", "_law_other"] fRf fdRf) (T : Glb mg) : FnOk P w K mg base CX0 6 f fd ["_law_script"] (spLaw K) := by
  have GR : FnOk P w K mg base CX0 1 fR fdR ["_law_script", "_law_k"] (spRow (K := K)) := ok_row DR.fn T
  have GD : FnOk P w K mg base CX0 1 fD fdD ["_law_row", "_law_many"] spDraw := ok_draw DD.fn T
  have GWb : FnOk P w K mg base CX0 3 fWb fdWb ["_law_row", "_law_most"] spWeb := ok_web DWb.fn DD DLN T
  have GI : FnOk P w K mg base CX0 4 fI fdI ["self", "places", "ties"] (spInit C) := ok_init FI D.m.wc DN D.a DT D1 D2 T
  have GRf : FnOk P w K mg base CX0 4 fRf fdRf ["_law_web_here", "_law_one", "_law_other"] (spRef (K := K) C) := ok_ref DRf.fn D DW X T
  have GRi : FnOk P w K mg base CX0 4 fRi fdRi ["_law_web_here", "_law_ties", "_law_one", "_law_other"] (spRight C) := ok_right DRi.fn D DW DRo T
  refine F.ok scL (fun vs H Q E h => ?_) (fun cdv A outer s H vs Q E hr h => ?_)
  · obtain ⟨a, ns, rfl, _⟩ := h
    rfl
  · obtain ⟨a, ns, rfl, hS, hlen, k⟩ := h
    have hr1 := hr.mono (j := 1) (by decide)
    have hr3 := hr.mono (j := 3) (by decide)
    have hr4 := hr.mono (j := 4) (by decide)
    refine ⟨_, pss_cons (ps_for PassesOwn.never rfl (pi_range1 rfl T.range (pa_cons (pe_callB (call_max2 rfl) (by rfl) T.max PyProof.Rows.boot_max (pa_cons pe_int (pa_cons (pe_callB (call_min2 rfl) (by rfl) T.min PyProof.Rows.boot_min (pa_cons (pe_callB call_len_seq (by rfl) T.len PySem.boot_len (pa_cons (pv 0) pa_nil)) (pa_cons pe_int pa_nil))) pa_nil))) pa_nil)) (pg_name (i := 1) scL.nd rfl (Or.inl rfl))
        (pss_cons (ps_set (i := 2) scL.nd rfl (Or.inl rfl) (pe_call GR hr1 rfl DR.mgf DR.fn.kp DR.b .nil pass0 (pa_cons (pv 0) (pa_cons (pv 1) pa_nil))))
        (pss_cons (ps_asg (pe_call GWb hr3 rfl DWb.mgf DWb.fn.kp DWb.b .nil pass0 (pa_cons (pv 2) (pa_cons pe_int pa_nil))) (pg_tup rfl (pgs_cons (pg_name (i := 3) scL.nd rfl (Or.inr rfl)) (pgs_cons (pg_name (i := 4) scL.nd rfl (Or.inl rfl)) pgs_nil))))
        (pss_cons (ps_set (i := 5) scL.nd rfl (Or.inl rfl) (pe_make MkW GI hr rfl D.m.wc.mgC bI .nil pass0 (pa_cons (pv 3) (pa_cons (pv 4) pa_nil))))
        (pss_cons (ps_for PassesOwn.never rfl (pi_range1 rfl T.range (pa_cons (pe_op op_add pe_int (pe_call GD hr1 rfl DD.mgf DD.fn.kp DD.b .nil pass0 (pa_cons (pv 2) (pa_cons pe_int pa_nil)))) pa_nil)) (pg_name (i := 6) scL.nd rfl (Or.inl rfl))
          (pss_cons (ps_set (i := 7) scL.nd rfl (Or.inl rfl) (pe_ix ix_list (pv 3) (pe_call GD hr1 rfl DD.mgf DD.fn.kp DD.b .nil pass0 (pa_cons (pv 2) (pa_cons (pe_callB call_len_seq (by rfl) T.len PySem.boot_len (pa_cons (pv 3) pa_nil)) pa_nil))) (fun _ _ => rfl)))
          (pss_one (ps_if (PW.pt (pw_or (pt_not (pt_val (pe_call GRi hr4 rfl DRi.mgf DRi.fn.kp DRi.b .nil pass0 (pa_cons (pv 5) (pa_cons (pv 4) (pa_cons (pv 7) (pa_cons (pe_ix ix_list (pv 3) (pe_call GD hr1 rfl DD.mgf DD.fn.kp DD.b .nil pass0 (pa_cons (pv 2) (pa_cons (pe_callB call_len_seq (by rfl) T.len PySem.boot_len (pa_cons (pv 3) pa_nil)) pa_nil))) (fun _ _ => rfl)) pa_nil))))) (fun _ => rfl)))
              (pw_or1 (pt_not (pt_val (pe_call GRi hr4 rfl DRi.mgf DRi.fn.kp DRi.b .nil pass0 (pa_cons (pv 5) (pa_cons (pv 4) (pa_cons (pv 7) (pa_cons (pv 7) pa_nil))))) (fun _ => rfl)))))) (pss_one (ps_ret pe_bl)) pss_nil))))
        (pss_cons (ps_set (i := 8) scL.nd rfl (Or.inl rfl) (pe_ix ix_list
            (pe_lc ["_law_letter"] [3] rfl (compSc (osc := (defScope sLaw).names) (N := nL) rfl rfl (by decide +kernel)) (gk_name (by decide)) (pi_str pe_str)
              (fun _ _ _ => pg_name (i := 0) (show (["_law_letter", "_law_names"] : List Str).Nodup by decide +kernel) rfl (Or.inl rfl)) (fun _ _ _ => pifs_one (pt_cmpR (r := rIn K true) op_notIn_seq (pv 0) (pv 1) rfl))
              (fun _ _ _ => pv 0)) pe_int (fun _ _ => rfl)))
        (pss_cons (ps_set (i := 9) scL.nd rfl (Or.inl rfl) (pe_ix ix_list (pe_lst (pa_cons pe_non (pa_cons pe_int (pa_cons pe_str (pa_cons (pv 8) (pa_cons (pe_lst (pa_cons (pe_ix ix_list (pv 3) pe_int (fun _ _ => rfl)) pa_nil)) (pa_cons (pe_tup (pa_cons (pe_ix ix_list (pv 3) pe_int (fun _ _ => rfl)) pa_nil)) pa_nil)))))))
            (pe_call GD hr1 rfl DD.mgf DD.fn.kp DD.b .nil pass0 (pa_cons (pv 2) (pa_cons pe_int pa_nil))) (fun _ _ => rfl)))
        (pss_cons (ps_if (PW.pt (pw_or (pt_not (pt_val (pe_call GRf hr4 rfl DRf.mgf DRf.fn.kp DRf.b .nil pass0 (pa_cons (pv 5) (pa_cons (pv 9) (pa_cons (pe_ix ix_list (pv 3) pe_int (fun _ _ => rfl)) pa_nil)))) (fun _ => rfl)))
            (pw_or1 (pt_not (pt_val (pe_call GRf hr4 rfl DRf.mgf DRf.fn.kp DRf.b .nil pass0 (pa_cons (pv 5) (pa_cons (pe_ix ix_list (pv 3) pe_int (fun _ _ => rfl)) (pa_cons (pv 9) pa_nil)))) (fun _ => rfl)))))) (pss_one (ps_ret pe_bl)) pss_nil)
        (pss_one (ps_if (pt_not (pt_val (pe_call GRf hr4 rfl DRf.mgf DRf.fn.kp DRf.b .nil pass0 (pa_cons (pv 5) (pa_cons (pv 9) (pa_cons (pv 9) pa_nil)))) (fun _ => rfl))) (pss_one (ps_ret pe_bl)) pss_nil))))))))))
      (pss_one (ps_ret pe_bl)), ?_⟩
    refine ⟨_, rfl, a, _, rfl, .inl hS, _, _, rfl, _, _, rfl, _, rfl, ?_, ?_, ?_⟩
    · split <;> (try split) <;> omega
    · rw [List.length_map]
      split <;> (try split) <;> omega
    refine for_range (fun i σ H2 => ∃ v1 v2 v3 v4 v5 v6 v7 v8 v9, σ = [some (V.ref a), v1, v2, v3, v4, v5, v6, v7, v8, v9] ∧ Same H H2) ⟨_, _, _, _, _, _, _, _, _, rfl, Same.refl H⟩ ?_ ?_
    · rintro i σ H2 hi ⟨v1, v2, v3, v4, v5, v6, v7, v8, v9, rfl, s2⟩
      -- row = row_at(script, k)
      refine ⟨_, rfl, _, rfl, a, ns, i, (by simp), s2.seq hS, hlen, fun p H3 np row3 same3 => ?_⟩
      -- names, ties = web(row, 12)
      refine ⟨_, rfl, p, rfl, row3, fun t la lb zs ps ts H4 L4 ht4 na nb nt nab row4 but4 => ?_⟩
      have s4 : Same H2 H4 := Same.but same3 but4 np
      have nlap : la ≠ p := Ne.symm (ne_of_none row3.lst.choose_spec na)
      have nlbp : lb ≠ p := Ne.symm (ne_of_none row3.lst.choose_spec nb)
      refine ⟨t, _, rfl, SqT.of ht4, rfl, _, _, rfl, _, _, rfl, rfl, ?_⟩
      -- Web(..)
      refine ⟨_, rfl, _, rfl, ?_⟩
      intro x dx nx ndx nex
      have sx : Same H4 (upd (upd H4 dx (.own x)) x (.ins C dx [])) := Same.upd_new (same_upd ndx) nx
      refine ⟨x, la, lb, zs, ps, ts, rfl, ⟨dx, upd_same⟩, L4.same sx, fun H6 W6 b6 => ⟨rfl, ?_⟩⟩
      have s46 : Same H4 H6 := Same.but sx b6 nx
      have S6 : Sit C x p la lb zs ps ts H2 H6 := ⟨W6, L4.same s46, let ⟨a, b, e⟩ := row4; ⟨a, b, s46 _ _ e⟩, s4.trans s46⟩
      -- pairs of places
      have lz : ((zs.map V.str).length : Int) = zs.length := by rw [List.length_map]
      have lpos : (0 : Int) < zs.length := by have := L4.good.one; omega
      have lbig : (zs.length : Int) < 2 ^ 64 := by have := L4.good.few; omega
      refine ⟨_, rfl, p, 12, rfl, S6.row, by decide, by decide, fun d1 H7 d1a d1b row7 but7 => ?_⟩
      have S7 := S6.drawn but7 row7 np nlap nlbp
      refine ⟨_, _, rfl, rfl, _, rfl, by omega, by omega, ?_⟩
      refine for_range (fun i σ H8 => ∃ v1 v6 v7 v8 v9, σ = [some (V.ref a), v1, some (.ref p), some (.ref la), some (.ref lb), some (.ref x), v6, v7, v8, v9] ∧ Sit C x p la lb zs ps ts H2 H8) ⟨_, _, _, _, _, rfl, S7⟩ ?_ ?_
      · rintro j σ H8 hj ⟨v1, v6, v7, v8, v9, rfl, S8⟩
        refine ⟨_, rfl, _, rfl, _, rfl, la, _, rfl, .inl (SqL.of S8.L.ha), p, _, rfl, S8.row, by rw [lz]; exact lpos, by rw [lz]; exact lbig, fun d2 H9 d2a d2b row9 but9 => ?_⟩
        have S9 := S8.drawn but9 row9 np nlap nlbp
        rw [lz] at d2b
        obtain ⟨n2, rfl⟩ := Int.eq_ofNat_of_zero_le d2a
        have hn2 : n2 < zs.length := by omega
        refine ⟨la, _, _, _, rfl, rfl, SqL.of S9.L.ha, atI_nat (j := n2) (v := .str zs[n2]) (by simp [hn2]), ?_⟩
        refine ⟨_, rfl, _, rfl, _, rfl, _, rfl, _, rfl, _, rfl, la, _, rfl, .inl (SqL.of S9.L.ha), p, _, rfl, S9.row, by rw [lz]; exact lpos, by rw [lz]; exact lbig, fun d3 H10 d3a d3b row10 but10 => ?_⟩
        have S10 := S9.drawn but10 row10 np nlap nlbp
        rw [lz] at d3b
        obtain ⟨n3, rfl⟩ := Int.eq_ofNat_of_zero_le d3a
        have hn3 : n3 < zs.length := by omega
        refine ⟨la, _, _, _, rfl, rfl, SqL.of S10.L.ha, atI_nat (j := n3) (v := .str zs[n3]) (by simp [hn3]), ?_⟩
        refine ⟨x, lb, zs[n2], zs[n3], zs, ps, ts, rfl, S10.W, S10.good, S10.L.hb, S10.L.hT, List.getElem_mem hn2, List.getElem_mem hn3, fun H11 s11 => ⟨_, rfl, iteF ?_⟩⟩
        have S11 := S10.same s11
        refine ⟨_, rfl, _, rfl, _, rfl, _, rfl, x, lb, zs[n2], zs[n2], zs, ps, ts, rfl, S11.W, S11.good, S11.L.hb, S11.L.hT, List.getElem_mem hn2, List.getElem_mem hn2, fun H12 s12 => ⟨_, rfl, iteF ?_⟩⟩
        exact ⟨_, _, _, _, _, rfl, S11.same s12⟩
      · rintro σ H8 ⟨v1, v6, v7, v8, v9, rfl, S8⟩
        -- none: a letter that is no place
        refine ⟨am, rfl, lc_str (fun i ys H9 => H9 = H8 ∧ ys = (((am.cps.toList.take i).filter fun c => decide (one c ∉ zs)).map one).map V.str) ⟨rfl, rfl⟩ ?_ ?_ ?_⟩
        · rintro i ys H9 hi ⟨_, rfl⟩
          rw [List.length_map, List.length_map]
          refine Nat.le_trans (List.length_filter_le _ _) ?_
          rw [List.length_take, Array.length_toList, am_size]
          exact Nat.le_trans (Nat.min_le_right _ _) (by decide)
        · rintro i c ys H9 R hc ⟨rfl, rfl⟩ kR
          simp only [gName]
          refine ⟨_, rfl, _, rfl, la, _, rfl, .inl (SqL.of S8.L.ha), rfl, flat_strs zs, _, rfl, ?_⟩
          simp only [if_true]
          rw [inV_str]
          have et : am.cps.toList.take (i + 1) = am.cps.toList.take i ++ [c] := by
            rw [List.take_add_one, show am.cps.toList[i]? = some c by simpa using hc]; rfl
          have ef : ((am.cps.toList.take (i + 1)).filter fun c => decide (one c ∉ zs)) = ((am.cps.toList.take i).filter fun c => decide (one c ∉ zs)) ++ (if one c ∈ zs then [] else [c]) := by
            rw [et, List.filter_append]
            by_cases h : one c ∈ zs <;> simp [h]
          by_cases h : one c ∈ zs
          · rw [decide_eq_true h]
            refine iteF (kR _ _ ⟨rfl, ?_⟩)
            rw [ef, if_pos h, List.append_nil]
          · rw [decide_eq_false h]
            refine iteT ⟨_, rfl, kR _ _ ⟨rfl, ?_⟩⟩
            rw [ef, if_neg h]
            simp
        · rintro ys H9 ⟨rfl, rfl⟩ D1 hD1
          have all : am.cps.toList.take am.cps.size = am.cps.toList := List.take_of_length_le (by simp)
          rw [all]
          cases ef : am.cps.toList.filter fun c => decide (one c ∉ zs) with
          | nil =>
            exfalso
            have h := pigeon _ zs am_nd fun x hx => by
              obtain ⟨c, hc, rfl⟩ := List.mem_map.mp hx
              have := List.filter_eq_nil_iff.mp ef c hc
              simpa using this
            rw [List.length_map, Array.length_toList, am_size] at h
            have := S8.L.good.few
            omega
          | cons c r =>
            have hc : c ∈ am.cps.toList.filter fun c => decide (one c ∉ zs) := by rw [ef]; exact List.mem_cons_self
            obtain ⟨m1, m2⟩ := List.mem_filter.mp hc
            have nc : one c ∉ zs := by simpa using m2
            refine ⟨D1, _, _, _, rfl, rfl, SqL.of upd_same, atI_nat (j := 0) rfl, ?_⟩
            have S10 := S8.same (same_upd (o := .lst (((c :: r).map one).map V.str)) hD1)
            generalize upd H9 D1 (.lst (((c :: r).map one).map V.str)) = H10 at S10 ⊢
            -- odd
            have pos := S10.L.good.one
            obtain ⟨z0, zr, rfl⟩ : ∃ z0 zr, zs = z0 :: zr := by
              cases zs with
              | nil => simp at pos
              | cons z0 zr => exact ⟨z0, zr, rfl⟩
            refine ⟨_, rfl, _, rfl, la, _, _, _, rfl, rfl, SqL.of S10.L.ha, atI_nat (j := 0) rfl, (by show 1 ≤ sizeLine; decide), fun o1 ho1 => ?_⟩
            have t1 := same_upd (o := .lst [.str z0]) ho1
            have S11 := S10.same t1
            refine ⟨_, rfl, la, _, _, _, rfl, rfl, SqL.of S11.L.ha, atI_nat (j := 0) rfl, (by show 1 ≤ sizeLine; decide), fun o2 ho2 => ?_⟩
            have t2 := same_upd (o := .tup [.str z0]) ho2
            refine ⟨(by show 6 ≤ sizeLine; decide), fun od hod => ?_⟩
            generalize hys : [V.non, .int 0, .str "", .str (one c), .ref o1, .ref o2] = ys at hod ⊢
            have t3 := same_upd (o := .lst ys) hod
            have S13 := (S11.same t2).same t3
            have k1 := (t2.trans t3) _ _ (upd_same (H := H10) (a := o1) (o := .lst [.str z0]))
            have k2 := t3 _ _ upd_same
            have kq := upd_same (H := upd (upd H10 o1 (.lst [.str z0])) o2 (.tup [.str z0])) (a := od) (o := .lst ys)
            generalize upd (upd (upd H10 o1 (.lst [.str z0])) o2 (.tup [.str z0])) od (.lst ys) = H13 at S13 k1 k2 kq ⊢
            have gd := S13.L.good
            have allN : ∀ y ∈ ys, NoPl K H13 (z0 :: zr) y := fun y hy => by
              rw [← hys] at hy
              simp only [List.mem_cons, List.not_mem_nil, or_false] at hy
              rcases hy with rfl | rfl | rfl | rfl | rfl | rfl
              · exact pl_non
              · exact pl_int
              · exact pl_str (gd.out nm_empty)
              · exact pl_str nc
              · exact pl_lst k1
              · exact pl_tup k2
            have ys6 : ys.length = 6 := by rw [← hys]; rfl
            refine ⟨_, rfl, p, 6, rfl, S13.row, by decide, by decide, fun d H14 da db row14 but14 => ?_⟩
            have npod : od ≠ p := fun e => by
              obtain ⟨u, v, q⟩ := S13.row
              rw [← e, kq] at q
              have e2 : ys = [V.int u, V.int v] := by injection (Option.some.inj q)
              rw [e2] at ys6
              simp at ys6
            have kq14 := but14 _ _ kq npod
            obtain ⟨n, rfl⟩ := Int.eq_ofNat_of_zero_le da
            have hn : n < ys.length := by omega
            have S14 := S13.drawn but14 row14 np nlap nlbp
            have no14 := NoPl.but (allN _ (List.getElem_mem hn)) but14 S13.row row14
            refine ⟨od, _, _, _, rfl, rfl, SqL.of kq14, atI_nat (j := n) (List.getElem?_eq_getElem hn), ?_⟩
            generalize ys[n] = y at no14 ⊢
            have z0in : ∃ a, V.str z0 = .str a ∧ a ∈ z0 :: zr := ⟨z0, rfl, List.mem_cons_self⟩
            refine ⟨_, rfl, _, rfl, _, rfl, la, _, _, _, rfl, rfl, SqL.of S14.L.ha, atI_nat (j := 0) rfl, x, _, ps, y, _, rfl, S14.W, S14.good, .inl no14, fun H15 s15 => ⟨_, rfl, iteF ?_⟩⟩
            have S15 := S14.same s15
            have no15 := no14.same s15
            refine ⟨_, rfl, _, rfl, la, _, _, _, rfl, rfl, SqL.of S15.L.ha, atI_nat (j := 0) rfl, _, rfl, x, _, ps, _, y, rfl, S15.W, S15.good, .inr ⟨z0in, no15⟩, fun H16 s16 => ⟨_, rfl, iteF ?_⟩⟩
            have S16 := S15.same s16
            refine ⟨_, rfl, _, rfl, _, rfl, x, _, ps, y, y, rfl, S16.W, S16.good, .inl (no15.same s16), fun H17 s17 => ⟨_, rfl, iteF ?_⟩⟩
            exact ⟨_, _, _, _, _, _, _, _, _, rfl, s2.trans (S16.same s17).s⟩
    · rintro σ H2 ⟨v1, v2, v3, v4, v5, v6, v7, v8, v9, rfl, s2⟩
      exact k H2
end
end K15

set_option Elab.async false
set_option linter.all false
set_option maxRecDepth 100000
set_option maxHeartbeats 4000000
namespace K15
open PySem PySem.Spec PyProof.Rows L2
theorem all_mk {l : PySem.W.OpenLaw} {w : World} {K : PySem.W.Frag} {h : Heap} {mg : Str → Option Value} {fa : Addr} {C : Addr} {f1 : Addr} {od1 an1 : Option Addr} {sl1 : Array (Option Value)} {oc1 kV1 dc1 pm1 cd1 ct1 : Value} {f2 : Addr} {od2 an2 : Option Addr} {sl2 : Array (Option Value)} {oc2 kV2 dc2 pm2 cd2 ct2 : Value} {f3 : Addr} {od3 an3 : Option Addr} {sl3 : Array (Option Value)} {oc3 kV3 dc3 pm3 cd3 ct3 : Value} {f4 : Addr} {od4 an4 : Option Addr} {sl4 : Array (Option Value)} {oc4 kV4 dc4 pm4 cd4 ct4 : Value} {f5 : Addr} {od5 an5 : Option Addr} {sl5 : Array (Option Value)} {oc5 kV5 dc5 pm5 cd5 ct5 : Value} {f6 : Addr} {od6 an6 : Option Addr} {sl6 : Array (Option Value)} {oc6 kV6 dc6 pm6 cd6 ct6 : Value} {f7 : Addr} {od7 an7 : Option Addr} {sl7 : Array (Option Value)} {oc7 kV7 dc7 pm7 cd7 ct7 : Value} {f8 : Addr} {od8 an8 : Option Addr} {sl8 : Array (Option Value)} {oc8 kV8 dc8 pm8 cd8 ct8 : Value} {f9 : Addr} {od9 an9 : Option Addr} {sl9 : Array (Option Value)} {oc9 kV9 dc9 pm9 cd9 ct9 : Value} {f10 : Addr} {od10 an10 : Option Addr} {sl10 : Array (Option Value)} {oc10 kV10 dc10 pm10 cd10 ct10 : Value} {f11 : Addr} {od11 an11 : Option Addr} {sl11 : Array (Option Value)} {oc11 kV11 dc11 pm11 cd11 ct11 : Value} {f12 : Addr} {od12 an12 : Option Addr} {sl12 : Array (Option Value)} {oc12 kV12 dc12 pm12 cd12 ct12 : Value} {f13 : Addr} {od13 an13 : Option Addr} {sl13 : Array (Option Value)} {oc13 kV13 dc13 pm13 cd13 ct13 : Value} {f14 : Addr} {od14 an14 : Option Addr} {sl14 : Array (Option Value)} {oc14 kV14 dc14 pm14 cd14 ct14 : Value} {f15 : Addr} {od15 an15 : Option Addr} {sl15 : Array (Option Value)} {oc15 kV15 dc15 pm15 cd15 ct15 : Value} {f16 : Addr} {od16 an16 : Option Addr} {sl16 : Array (Option Value)} {oc16 kV16 dc16 pm16 cd16 ct16 : Value} {f17 : Addr} {od17 an17 : Option Addr} {sl17 : Array (Option Value)} {oc17 kV17 dc17 pm17 cd17 ct17 : Value} {f18 : Addr} {od18 an18 : Option Addr} {sl18 : Array (Option Value)} {oc18 kV18 dc18 pm18 cd18 ct18 : Value} {f19 : Addr} {od19 an19 : Option Addr} {sl19 : Array (Option Value)} {oc19 kV19 dc19 pm19 cd19 ct19 : Value} {f20 : Addr} {od20 an20 : Option Addr} {sl20 : Array (Option Value)} {oc20 kV20 dc20 pm20 cd20 ct20 : Value} {f21 : Addr} {od21 an21 : Option Addr} {sl21 : Array (Option Value)} {oc21 kV21 dc21 pm21 cd21 ct21 : Value} {E0 : Addr} {E1 : Addr} {E2 : Addr} {E3 : Addr} {t_LONGEST : Tok} {t_MOST_PLACES : Tok} {t_MOST_TIES : Tok} (X : K.In h) (G : h.Ns mainGlobals mg) (hfa : mg "law" = some (.ref fa))
    (aC : PySem.W.nsIn K mainGlobals "Web" = some (some (.ref C)))
    (a1 : PySem.W.findIn K (.ref C) "__init__" = some (some (.ref f1)))
    (i1 : PySem.W.isFn K (.ref f1) = true)
    (l1 : K.lookup f1 = some ⟨oc1, od1, .func (PySem.W.fnOf "__init__" "Web.__init__" (defArgs sInit) (defBody sInit) (defScope sInit) .none kV1 dc1 pm1 an1 cd1 ct1), sl1⟩)
    (c1 : PySem.W.codeIn K cd1 "Web.__init__" = true)
    (k1 : PySem.W.keepIn K (.ref f1) = true)
    (a2 : PySem.W.findIn K (.ref C) "places" = some (some (.ref f2)))
    (i2 : PySem.W.isFn K (.ref f2) = true)
    (l2 : K.lookup f2 = some ⟨oc2, od2, .func (PySem.W.fnOf "places" "Web.places" (defArgs sPlaces) (defBody sPlaces) (defScope sPlaces) .none kV2 dc2 pm2 an2 cd2 ct2), sl2⟩)
    (c2 : PySem.W.codeIn K cd2 "Web.places" = true)
    (k2 : PySem.W.keepIn K (.ref f2) = true)
    (a3 : PySem.W.findIn K (.ref C) "tie" = some (some (.ref f3)))
    (i3 : PySem.W.isFn K (.ref f3) = true)
    (l3 : K.lookup f3 = some ⟨oc3, od3, .func (PySem.W.fnOf "tie" "Web.tie" (defArgs sTieM) (defBody sTieM) (defScope sTieM) .none kV3 dc3 pm3 an3 cd3 ct3), sl3⟩)
    (c3 : PySem.W.codeIn K cd3 "Web.tie" = true)
    (k3 : PySem.W.keepIn K (.ref f3) = true)
    (a4 : PySem.W.findIn K (.ref C) "ties" = some (some (.ref f4)))
    (i4 : PySem.W.isFn K (.ref f4) = true)
    (l4 : K.lookup f4 = some ⟨oc4, od4, .func (PySem.W.fnOf "ties" "Web.ties" (defArgs sTies) (defBody sTies) (defScope sTies) .none kV4 dc4 pm4 an4 cd4 ct4), sl4⟩)
    (c4 : PySem.W.codeIn K cd4 "Web.ties" = true)
    (k4 : PySem.W.keepIn K (.ref f4) = true)
    (pg : PySem.W.plainGet K C Str.empty = true)
    (hd : PySem.W.hasDictIn K C = true)
    (po : PySem.W.plainOver K C = true)
    (sa : PySem.W.findIn K (.ref C) "__setattr__" = some (some (.builtin "object.__setattr__")))
    (mk : PySem.W.makesIn K C = true)
    (kc : PySem.W.keepIn K (.ref C) = true)
    (nA0 : PySem.W.findIn K (.ref C) "kept_places" = some none)
    (nA1 : PySem.W.findIn K (.ref C) "kept_ties" = some none)
    (a5 : PySem.W.nsIn K mainGlobals "is_whole" = some (some (.ref f5)))
    (l5 : K.lookup f5 = some ⟨oc5, od5, .func (PySem.W.fnOf "is_whole" "is_whole" (defArgs sWhole) (defBody sWhole) (defScope sWhole) .none kV5 dc5 pm5 an5 cd5 ct5), sl5⟩)
    (c5 : PySem.W.codeIn K cd5 "is_whole" = true)
    (k5 : PySem.W.keepIn K (.ref f5) = true)
    (a6 : PySem.W.nsIn K mainGlobals "is_name" = some (some (.ref f6)))
    (l6 : K.lookup f6 = some ⟨oc6, od6, .func (PySem.W.fnOf "is_name" "is_name" (defArgs sName) (defBody sName) (defScope sName) .none kV6 dc6 pm6 an6 cd6 ct6), sl6⟩)
    (c6 : PySem.W.codeIn K cd6 "is_name" = true)
    (k6 : PySem.W.keepIn K (.ref f6) = true)
    (a7 : PySem.W.nsIn K mainGlobals "check_places" = some (some (.ref f7)))
    (l7 : K.lookup f7 = some ⟨oc7, od7, .func (PySem.W.fnOf "check_places" "check_places" (defArgs sChkP) (defBody sChkP) (defScope sChkP) .none kV7 dc7 pm7 an7 cd7 ct7), sl7⟩)
    (c7 : PySem.W.codeIn K cd7 "check_places" = true)
    (k7 : PySem.W.keepIn K (.ref f7) = true)
    (a8 : PySem.W.nsIn K mainGlobals "is_among" = some (some (.ref f8)))
    (l8 : K.lookup f8 = some ⟨oc8, od8, .func (PySem.W.fnOf "is_among" "is_among" (defArgs sAmong) (defBody sAmong) (defScope sAmong) .none kV8 dc8 pm8 an8 cd8 ct8), sl8⟩)
    (c8 : PySem.W.codeIn K cd8 "is_among" = true)
    (k8 : PySem.W.keepIn K (.ref f8) = true)
    (a9 : PySem.W.nsIn K mainGlobals "is_tie" = some (some (.ref f9)))
    (l9 : K.lookup f9 = some ⟨oc9, od9, .func (PySem.W.fnOf "is_tie" "is_tie" (defArgs sTie) (defBody sTie) (defScope sTie) .none kV9 dc9 pm9 an9 cd9 ct9), sl9⟩)
    (c9 : PySem.W.codeIn K cd9 "is_tie" = true)
    (k9 : PySem.W.keepIn K (.ref f9) = true)
    (a10 : PySem.W.nsIn K mainGlobals "check_ties" = some (some (.ref f10)))
    (l10 : K.lookup f10 = some ⟨oc10, od10, .func (PySem.W.fnOf "check_ties" "check_ties" (defArgs sChkT) (defBody sChkT) (defScope sChkT) .none kV10 dc10 pm10 an10 cd10 ct10), sl10⟩)
    (c10 : PySem.W.codeIn K cd10 "check_ties" = true)
    (k10 : PySem.W.keepIn K (.ref f10) = true)
    (a11 : PySem.W.nsIn K mainGlobals "check_place" = some (some (.ref f11)))
    (l11 : K.lookup f11 = some ⟨oc11, od11, .func (PySem.W.fnOf "check_place" "check_place" (defArgs sChkPl) (defBody sChkPl) (defScope sChkPl) .none kV11 dc11 pm11 an11 cd11 ct11), sl11⟩)
    (c11 : PySem.W.codeIn K cd11 "check_place" = true)
    (k11 : PySem.W.keepIn K (.ref f11) = true)
    (a12 : PySem.W.nsIn K mainGlobals "came_by" = some (some (.ref f12)))
    (l12 : K.lookup f12 = some ⟨oc12, od12, .func (PySem.W.fnOf "came_by" "came_by" (defArgs sCame) (defBody sCame) (defScope sCame) .none kV12 dc12 pm12 an12 cd12 ct12), sl12⟩)
    (c12 : PySem.W.codeIn K cd12 "came_by" = true)
    (k12 : PySem.W.keepIn K (.ref f12) = true)
    (a13 : PySem.W.nsIn K mainGlobals "way" = some (some (.ref f13)))
    (l13 : K.lookup f13 = some ⟨oc13, od13, .func (PySem.W.fnOf "way" "way" (defArgs sWay) (defBody sWay) (defScope sWay) .none kV13 dc13 pm13 an13 cd13 ct13), sl13⟩)
    (c13 : PySem.W.codeIn K cd13 "way" = true)
    (k13 : PySem.W.keepIn K (.ref f13) = true)
    (a14 : PySem.W.nsIn K mainGlobals "_law_row_at" = some (some (.ref f14)))
    (l14 : K.lookup f14 = some ⟨oc14, od14, .func (PySem.W.fnOf "_law_row_at" "_law_row_at" (defArgs sRow) (defBody sRow) (defScope sRow) .none kV14 dc14 pm14 an14 cd14 ct14), sl14⟩)
    (c14 : PySem.W.codeIn K cd14 "_law_row_at" = true)
    (k14 : PySem.W.keepIn K (.ref f14) = true)
    (a15 : PySem.W.nsIn K mainGlobals "_law_draw" = some (some (.ref f15)))
    (l15 : K.lookup f15 = some ⟨oc15, od15, .func (PySem.W.fnOf "_law_draw" "_law_draw" (defArgs sDraw) (defBody sDraw) (defScope sDraw) .none kV15 dc15 pm15 an15 cd15 ct15), sl15⟩)
    (c15 : PySem.W.codeIn K cd15 "_law_draw" = true)
    (k15 : PySem.W.keepIn K (.ref f15) = true)
    (a16 : PySem.W.nsIn K mainGlobals "_law_name" = some (some (.ref f16)))
    (l16 : K.lookup f16 = some ⟨oc16, od16, .func (PySem.W.fnOf "_law_name" "_law_name" (defArgs sLName) (defBody sLName) (defScope sLName) .none kV16 dc16 pm16 an16 cd16 ct16), sl16⟩)
    (c16 : PySem.W.codeIn K cd16 "_law_name" = true)
    (k16 : PySem.W.keepIn K (.ref f16) = true)
    (a17 : PySem.W.nsIn K mainGlobals "_law_web" = some (some (.ref f17)))
    (l17 : K.lookup f17 = some ⟨oc17, od17, .func (PySem.W.fnOf "_law_web" "_law_web" (defArgs sWeb) (defBody sWeb) (defScope sWeb) .none kV17 dc17 pm17 an17 cd17 ct17), sl17⟩)
    (c17 : PySem.W.codeIn K cd17 "_law_web" = true)
    (k17 : PySem.W.keepIn K (.ref f17) = true)
    (a18 : PySem.W.nsIn K mainGlobals "_law_rounds" = some (some (.ref f18)))
    (l18 : K.lookup f18 = some ⟨oc18, od18, .func (PySem.W.fnOf "_law_rounds" "_law_rounds" (defArgs sRounds) (defBody sRounds) (defScope sRounds) .none kV18 dc18 pm18 an18 cd18 ct18), sl18⟩)
    (c18 : PySem.W.codeIn K cd18 "_law_rounds" = true)
    (k18 : PySem.W.keepIn K (.ref f18) = true)
    (a19 : PySem.W.nsIn K mainGlobals "_law_right" = some (some (.ref f19)))
    (l19 : K.lookup f19 = some ⟨oc19, od19, .func (PySem.W.fnOf "_law_right" "_law_right" (defArgs sRight) (defBody sRight) (defScope sRight) .none kV19 dc19 pm19 an19 cd19 ct19), sl19⟩)
    (c19 : PySem.W.codeIn K cd19 "_law_right" = true)
    (k19 : PySem.W.keepIn K (.ref f19) = true)
    (a20 : PySem.W.nsIn K mainGlobals "_law_refused" = some (some (.ref f20)))
    (l20 : K.lookup f20 = some ⟨oc20, od20, .func (PySem.W.fnOf "_law_refused" "_law_refused" (defArgs sRef) (defBody sRef) (defScope sRef) .none kV20 dc20 pm20 an20 cd20 ct20), sl20⟩)
    (c20 : PySem.W.codeIn K cd20 "_law_refused" = true)
    (k20 : PySem.W.keepIn K (.ref f20) = true)
    (a21 : PySem.W.nsIn K mainGlobals "law" = some (some (.ref f21)))
    (l21 : K.lookup f21 = some ⟨oc21, od21, .func (PySem.W.fnOf "law" "law" (defArgs sLaw) (defBody sLaw) (defScope sLaw) .none kV21 dc21 pm21 an21 cd21 ct21), sl21⟩)
    (c21 : PySem.W.codeIn K cd21 "law" = true)
    (k21 : PySem.W.keepIn K (.ref f21) = true)
    (xE0 : PySem.W.nsIn K mainGlobals "WebError" = some (some (.ref E0)))
    (xE1 : PySem.W.nsIn K mainGlobals "NoTie" = some (some (.ref E1)))
    (yE1 : PySem.W.excIn K E1 [.type "ValueError", .type "Exception", .type "BaseException", .type "object"] "ValueError.__new__" = true)
    (zE1_0 : PySem.W.isClsIn K E1 = true)
    (zE1_1 : PySem.W.mroIn K E1 (.type "object") = some true)
    (zE1_2 : PySem.W.mroIn K E1 (.type "BaseException") = some true)
    (zE1_3 : PySem.W.findIn K (.ref E1) "__getattribute__" = some (some (.builtin "BaseException.__getattribute__")))
    (zE1_4 : PySem.W.findIn K (.ref E1) "__getattr__" = some none)
    (zE1_5 : PySem.W.findIn K (.ref E1) "__class__" = some (some (.builtin "object.__class__")))
    (xE2 : PySem.W.nsIn K mainGlobals "NoPlace" = some (some (.ref E2)))
    (yE2 : PySem.W.excIn K E2 [.type "ValueError", .type "Exception", .type "BaseException", .type "object"] "ValueError.__new__" = true)
    (zE2_0 : PySem.W.isClsIn K E2 = true)
    (zE2_1 : PySem.W.mroIn K E2 (.type "object") = some true)
    (zE2_2 : PySem.W.mroIn K E2 (.type "BaseException") = some true)
    (zE2_3 : PySem.W.findIn K (.ref E2) "__getattribute__" = some (some (.builtin "BaseException.__getattribute__")))
    (zE2_4 : PySem.W.findIn K (.ref E2) "__getattr__" = some none)
    (zE2_5 : PySem.W.findIn K (.ref E2) "__class__" = some (some (.builtin "object.__class__")))
    (xE3 : PySem.W.nsIn K mainGlobals "NoWeb" = some (some (.ref E3)))
    (g_divmod : PySem.W.nsIn K mainGlobals "divmod" = some none)
    (g_len : PySem.W.nsIn K mainGlobals "len" = some none)
    (g_all : PySem.W.nsIn K mainGlobals "all" = some none)
    (g_isinstance : PySem.W.nsIn K mainGlobals "isinstance" = some none)
    (g_str : PySem.W.nsIn K mainGlobals "str" = some none)
    (g_range : PySem.W.nsIn K mainGlobals "range" = some none)
    (g_max : PySem.W.nsIn K mainGlobals "max" = some none)
    (g_min : PySem.W.nsIn K mainGlobals "min" = some none)
    (g_bool : PySem.W.nsIn K mainGlobals "bool" = some none)
    (g_list : PySem.W.nsIn K mainGlobals "list" = some none)
    (g_int : PySem.W.nsIn K mainGlobals "int" = some none)
    (g_tuple : PySem.W.nsIn K mainGlobals "tuple" = some none)
    (g_set : PySem.W.nsIn K mainGlobals "set" = some none)
    (g_sorted : PySem.W.nsIn K mainGlobals "sorted" = some none)
    (g_ValueError : PySem.W.nsIn K mainGlobals "ValueError" = some none)
    (g_enumerate : PySem.W.nsIn K mainGlobals "enumerate" = some none)
    (g_LONGEST : PySem.W.nsIn K mainGlobals "LONGEST" = some (some (.int 8 t_LONGEST)))
    (g_MOST_PLACES : PySem.W.nsIn K mainGlobals "MOST_PLACES" = some (some (.int 12 t_MOST_PLACES)))
    (g_MOST_TIES : PySem.W.nsIn K mainGlobals "MOST_TIES" = some (some (.int 30 t_MOST_TIES)))
    (q1a : PySem.W.subIn K (.ref E0) (.type "BaseException") = some true)
    (q1b : PySem.W.kitOne K (.ref E2) (.ref E0) = some true)
    (q1c : (Value.ref E2 == Value.ref E0) = false)
    (q2 : PySem.W.kitOne K (.ref E2) (.ref E2) = some true)
    (q3 : PySem.W.kitOne K (.ref E2) (.type "ValueError") = some true)
    (q4 : PySem.W.kitAny K (.ref E2) [.ref E1, .ref E3] = some false)
    : ∃ fd : FuncData, (∀ (s : Shared) (v : Value), BindsTo s fd ⟨[v], []⟩ [("_law_script", v)]) ∧ ∀ base : Heap, K.In base → base.Ns mainGlobals mg → FnOk l.prog w K mg base CX0 6 fa fd ["_law_script"] (spLaw K) := by
  have e := hfa.symm.trans (PySem.W.mg_of X G a21)
  cases e
  have F_init := fun_mk (st := sInit) l1 c1 k1
  have B_init := F_init.binds (ps := ["self", "places", "ties"]) fun _ _ _ _ _ _ us hl => match us, hl with | [_, _, _], _ => rfl
  have Mm_init : Meth K C "__init__" f1 := ⟨a1, i1, k1⟩
  have F_places := fun_mk (st := sPlaces) l2 c2 k2
  have B_places := F_places.binds (ps := ["self"]) fun _ _ _ _ _ _ us hl => match us, hl with | [_], _ => rfl
  have Mm_places : Meth K C "places" f2 := ⟨a2, i2, k2⟩
  have F_tieM := fun_mk (st := sTieM) l3 c3 k3
  have B_tieM := F_tieM.binds (ps := ["self", "k"]) fun _ _ _ _ _ _ us hl => match us, hl with | [_, _], _ => rfl
  have Mm_tieM : Meth K C "tie" f3 := ⟨a3, i3, k3⟩
  have F_ties := fun_mk (st := sTies) l4 c4 k4
  have B_ties := F_ties.binds (ps := ["self"]) fun _ _ _ _ _ _ us hl => match us, hl with | [_], _ => rfl
  have Mm_ties : Meth K C "ties" f4 := ⟨a4, i4, k4⟩
  have W : WC K mg C := ⟨⟨pg, hd, po, sa⟩, nA0, nA1, PySem.W.mg_of X G aC⟩
  have MkC : Mk K C f1 := ⟨mk, a1, i1, kc⟩
  have F_whole := fun_mk (st := sWhole) l5 c5 k5
  have B_whole := F_whole.binds (ps := ["thing"]) fun _ _ _ _ _ _ us hl => match us, hl with | [_], _ => rfl
  have D_whole : Df K mg "is_whole" sWhole ["thing"] f5 _ := ⟨F_whole, PySem.W.mg_of X G a5, B_whole⟩
  have F_name := fun_mk (st := sName) l6 c6 k6
  have B_name := F_name.binds (ps := ["thing"]) fun _ _ _ _ _ _ us hl => match us, hl with | [_], _ => rfl
  have D_name : Df K mg "is_name" sName ["thing"] f6 _ := ⟨F_name, PySem.W.mg_of X G a6, B_name⟩
  have F_chkP := fun_mk (st := sChkP) l7 c7 k7
  have B_chkP := F_chkP.binds (ps := ["places"]) fun _ _ _ _ _ _ us hl => match us, hl with | [_], _ => rfl
  have D_chkP : Df K mg "check_places" sChkP ["places"] f7 _ := ⟨F_chkP, PySem.W.mg_of X G a7, B_chkP⟩
  have F_among := fun_mk (st := sAmong) l8 c8 k8
  have B_among := F_among.binds (ps := ["places", "thing"]) fun _ _ _ _ _ _ us hl => match us, hl with | [_, _], _ => rfl
  have D_among : Df K mg "is_among" sAmong ["places", "thing"] f8 _ := ⟨F_among, PySem.W.mg_of X G a8, B_among⟩
  have F_tie := fun_mk (st := sTie) l9 c9 k9
  have B_tie := F_tie.binds (ps := ["places", "thing"]) fun _ _ _ _ _ _ us hl => match us, hl with | [_, _], _ => rfl
  have D_tie : Df K mg "is_tie" sTie ["places", "thing"] f9 _ := ⟨F_tie, PySem.W.mg_of X G a9, B_tie⟩
  have F_chkT := fun_mk (st := sChkT) l10 c10 k10
  have B_chkT := F_chkT.binds (ps := ["places", "ties"]) fun _ _ _ _ _ _ us hl => match us, hl with | [_, _], _ => rfl
  have D_chkT : Df K mg "check_ties" sChkT ["places", "ties"] f10 _ := ⟨F_chkT, PySem.W.mg_of X G a10, B_chkT⟩
  have F_chkPl := fun_mk (st := sChkPl) l11 c11 k11
  have B_chkPl := F_chkPl.binds (ps := ["web", "place"]) fun _ _ _ _ _ _ us hl => match us, hl with | [_, _], _ => rfl
  have D_chkPl : Df K mg "check_place" sChkPl ["web", "place"] f11 _ := ⟨F_chkPl, PySem.W.mg_of X G a11, B_chkPl⟩
  have F_came := fun_mk (st := sCame) l12 c12 k12
  have B_came := F_came.binds (ps := ["web", "start"]) fun _ _ _ _ _ _ us hl => match us, hl with | [_, _], _ => rfl
  have D_came : Df K mg "came_by" sCame ["web", "start"] f12 _ := ⟨F_came, PySem.W.mg_of X G a12, B_came⟩
  have F_way := fun_mk (st := sWay) l13 c13 k13
  have B_way := F_way.binds (ps := ["web", "one", "other"]) fun _ _ _ _ _ _ us hl => match us, hl with | [_, _, _], _ => rfl
  have D_way : Df K mg "way" sWay ["web", "one", "other"] f13 _ := ⟨F_way, PySem.W.mg_of X G a13, B_way⟩
  have F_row := fun_mk (st := sRow) l14 c14 k14
  have B_row := F_row.binds (ps := ["_law_script", "_law_k"]) fun _ _ _ _ _ _ us hl => match us, hl with | [_, _], _ => rfl
  have D_row : Df K mg "_law_row_at" sRow ["_law_script", "_law_k"] f14 _ := ⟨F_row, PySem.W.mg_of X G a14, B_row⟩
  have F_draw := fun_mk (st := sDraw) l15 c15 k15
  have B_draw := F_draw.binds (ps := ["_law_row", "_law_many"]) fun _ _ _ _ _ _ us hl => match us, hl with | [_, _], _ => rfl
  have D_draw : Df K mg "_law_draw" sDraw ["_law_row", "_law_many"] f15 _ := ⟨F_draw, PySem.W.mg_of X G a15, B_draw⟩
  have F_lname := fun_mk (st := sLName) l16 c16 k16
  have B_lname := F_lname.binds (ps := ["_law_row", "_law_taken"]) fun _ _ _ _ _ _ us hl => match us, hl with | [_, _], _ => rfl
  have D_lname : Df K mg "_law_name" sLName ["_law_row", "_law_taken"] f16 _ := ⟨F_lname, PySem.W.mg_of X G a16, B_lname⟩
  have F_web := fun_mk (st := sWeb) l17 c17 k17
  have B_web := F_web.binds (ps := ["_law_row", "_law_most"]) fun _ _ _ _ _ _ us hl => match us, hl with | [_, _], _ => rfl
  have D_web : Df K mg "_law_web" sWeb ["_law_row", "_law_most"] f17 _ := ⟨F_web, PySem.W.mg_of X G a17, B_web⟩
  have F_rounds := fun_mk (st := sRounds) l18 c18 k18
  have B_rounds := F_rounds.binds (ps := ["_law_ties", "_law_place"]) fun _ _ _ _ _ _ us hl => match us, hl with | [_, _], _ => rfl
  have D_rounds : Df K mg "_law_rounds" sRounds ["_law_ties", "_law_place"] f18 _ := ⟨F_rounds, PySem.W.mg_of X G a18, B_rounds⟩
  have F_right := fun_mk (st := sRight) l19 c19 k19
  have B_right := F_right.binds (ps := ["_law_web_here", "_law_ties", "_law_one", "_law_other"]) fun _ _ _ _ _ _ us hl => match us, hl with | [_, _, _, _], _ => rfl
  have D_right : Df K mg "_law_right" sRight ["_law_web_here", "_law_ties", "_law_one", "_law_other"] f19 _ := ⟨F_right, PySem.W.mg_of X G a19, B_right⟩
  have F_ref := fun_mk (st := sRef) l20 c20 k20
  have B_ref := F_ref.binds (ps := ["_law_web_here", "_law_one", "_law_other"]) fun _ _ _ _ _ _ us hl => match us, hl with | [_, _, _], _ => rfl
  have D_ref : Df K mg "_law_refused" sRef ["_law_web_here", "_law_one", "_law_other"] f20 _ := ⟨F_ref, PySem.W.mg_of X G a20, B_ref⟩
  have F_law := fun_mk (st := sLaw) l21 c21 k21
  have mg_E0 := PySem.W.mg_of X G xE0
  have mg_E1 := PySem.W.mg_of X G xE1
  have Ex_E1 : Ex K mg "NoTie" E1 := ⟨mg_E1, _, _, _, _, yE1, PySem.F.excBase_ValueError⟩
  have Xc_E1 : ExcCl K E1 := ⟨zE1_0, zE1_1, zE1_2, zE1_3, zE1_4, zE1_5⟩
  have mg_E2 := PySem.W.mg_of X G xE2
  have Ex_E2 : Ex K mg "NoPlace" E2 := ⟨mg_E2, _, _, _, _, yE2, PySem.F.excBase_ValueError⟩
  have Xc_E2 : ExcCl K E2 := ⟨zE2_0, zE2_1, zE2_2, zE2_3, zE2_4, zE2_5⟩
  have mg_E3 := PySem.W.mg_of X G xE3
  have m_divmod := PySem.W.mg_none_of X G g_divmod
  have m_len := PySem.W.mg_none_of X G g_len
  have m_all := PySem.W.mg_none_of X G g_all
  have m_isinstance := PySem.W.mg_none_of X G g_isinstance
  have m_str := PySem.W.mg_none_of X G g_str
  have m_range := PySem.W.mg_none_of X G g_range
  have m_max := PySem.W.mg_none_of X G g_max
  have m_min := PySem.W.mg_none_of X G g_min
  have m_bool := PySem.W.mg_none_of X G g_bool
  have m_list := PySem.W.mg_none_of X G g_list
  have m_int := PySem.W.mg_none_of X G g_int
  have m_tuple := PySem.W.mg_none_of X G g_tuple
  have m_set := PySem.W.mg_none_of X G g_set
  have m_sorted := PySem.W.mg_none_of X G g_sorted
  have m_ValueError := PySem.W.mg_none_of X G g_ValueError
  have m_enumerate := PySem.W.mg_none_of X G g_enumerate
  have m_LONGEST := PySem.W.mg_of X G g_LONGEST
  have m_MOST_PLACES := PySem.W.mg_of X G g_MOST_PLACES
  have m_MOST_TIES := PySem.W.mg_of X G g_MOST_TIES
  have T : Glb mg := ⟨m_divmod, m_len, m_all, m_isinstance, m_str, m_range, m_max, m_min, m_bool, m_list, m_int, m_tuple, m_set, m_sorted, ⟨_, m_LONGEST⟩, ⟨_, m_MOST_PLACES⟩, ⟨_, m_MOST_TIES⟩⟩
  have M := Mt.mk W F_places Mm_places B_places F_ties Mm_ties B_ties
  have D := Wd.mk M F_tieM Mm_tieM B_tieM D_whole D_among D_chkPl D_came Ex_E1 Ex_E2 m_enumerate
  have XX : Errs K mg E0 E1 E2 E3 := ⟨mg_E0, Ex_E2, mg_E1, mg_E3, m_ValueError, exm_mk q1a q1b q1c, q2, q3, q4, Xc_E2⟩
  exact ⟨PySem.W.fnOf "law" "law" (defArgs sLaw) (defBody sLaw) (defScope sLaw) .none kV21 dc21 pm21 an21 cd21 ct21, fun s v => .of_eq rfl, fun base _ _ => ok_law F_law D_row D_draw D_lname D_web D_name D_tie D_chkP D_chkT F_init MkC B_init D D_way XX D_rounds D_right D_ref T⟩
theorem walk {l : PySem.W.OpenLaw} {q : Program} {loose : List Str} {XP : (Str → Option Value) → Heap → Prop} {YP : World → Heap → Prop} {d : DefRec} {K : Params → PySem.W.Frag} (hn : l.most = some 63) (hdf : d.params.defaults = [])
    (hY : ∀ (w : World) (h : Heap), YP w h → (K w.params).In h)
    (F : ∀ (w : World) (mg : Str → Option Value) (fa : Addr) (h : Heap), (K w.params).In h → h.Ns mainGlobals mg → mg d.name = some (.ref fa) →
      ∃ fd : FuncData, (∀ (s : Shared) (u : Value), BindsTo s fd ⟨[u], []⟩ [("_law_script", u)]) ∧ ∀ base : Heap, (K w.params).In base → base.Ns mainGlobals mg → FnOk l.prog w (K w.params) mg base CX0 6 fa fd ["_law_script"] (spLaw (K w.params))) :
    PySem.W.WalkO q loose XP YP l.row.toRowW d [] (fun f vs => PySem.call f vs) :=
  L2.walk_of (n := 63) (k := 6) (x := "_law_script") (CX := fun _ => CX0) (sp := fun w => spLaw (K w.params)) hn (by decide) hdf ⟨rfl, by decide, by decide⟩ hY F (fun _ _ a ns hl _ hS => ⟨a, ns, rfl, hS, hl, fun _ => rfl⟩) fun _ _ _ _ _ z => z
end K15
open PySem PySem.W PyProof.Rows
set_option maxRecDepth 100000 in
set_option maxHeartbeats 0 in
theorem PySem.Challenge.cw_cutmeet_k15_ways_holds : PySem.Challenge.rw_cutmeet_k15_ways.Holds := by
  w_on; o_law; k_head; (case hw => w_witness2)
  k_fill
  refine K15.walk (l := PySem.Challenge.rw_cutmeet_k15_ways) rfl rfl (fun w h Y => PySem.W.kIn_of Y) ?F
  case F =>
    intro w mg fa h KX G hmg
    refine' K15.all_mk KX G hmg ?aC ?a1 ?i1 ?l1 ?c1 ?k1 ?a2 ?i2 ?l2 ?c2 ?k2 ?a3 ?i3 ?l3 ?c3 ?k3 ?a4 ?i4 ?l4 ?c4 ?k4 ?pg ?hd ?po ?sa ?mk ?kc ?nA0 ?nA1 ?a5 ?l5 ?c5 ?k5 ?a6 ?l6 ?c6 ?k6 ?a7 ?l7 ?c7 ?k7 ?a8 ?l8 ?c8 ?k8 ?a9 ?l9 ?c9 ?k9 ?a10 ?l10 ?c10 ?k10 ?a11 ?l11 ?c11 ?k11 ?a12 ?l12 ?c12 ?k12 ?a13 ?l13 ?c13 ?k13 ?a14 ?l14 ?c14 ?k14 ?a15 ?l15 ?c15 ?k15 ?a16 ?l16 ?c16 ?k16 ?a17 ?l17 ?c17 ?k17 ?a18 ?l18 ?c18 ?k18 ?a19 ?l19 ?c19 ?k19 ?a20 ?l20 ?c20 ?k20 ?a21 ?l21 ?c21 ?k21 ?xE0 ?xE1 ?yE1 ?zE1_0 ?zE1_1 ?zE1_2 ?zE1_3 ?zE1_4 ?zE1_5 ?xE2 ?yE2 ?zE2_0 ?zE2_1 ?zE2_2 ?zE2_3 ?zE2_4 ?zE2_5 ?xE3 ?g_divmod ?g_len ?g_all ?g_isinstance ?g_str ?g_range ?g_max ?g_min ?g_bool ?g_list ?g_int ?g_tuple ?g_set ?g_sorted ?g_ValueError ?g_enumerate ?g_LONGEST ?g_MOST_PLACES ?g_MOST_TIES ?q1a ?q1b ?q1c ?q2 ?q3 ?q4
    (case aC => k_is)
    (case a1 => k_is)
    (case i1 => k_is)
    (case l1 => k_is)
    (case c1 => k_is)
    (case k1 => k_is)
    (case a2 => k_is)
    (case i2 => k_is)
    (case l2 => k_is)
    (case c2 => k_is)
    (case k2 => k_is)
    (case a3 => k_is)
    (case i3 => k_is)
    (case l3 => k_is)
    (case c3 => k_is)
    (case k3 => k_is)
    (case a4 => k_is)
    (case i4 => k_is)
    (case l4 => k_is)
    (case c4 => k_is)
    (case k4 => k_is)
    (case pg => k_is)
    (case hd => k_is)
    (case po => k_is)
    (case sa => k_is)
    (case mk => k_is)
    (case kc => k_is)
    (case nA0 => k_is)
    (case nA1 => k_is)
    (case a5 => k_is)
    (case l5 => k_is)
    (case c5 => k_is)
    (case k5 => k_is)
    (case a6 => k_is)
    (case l6 => k_is)
    (case c6 => k_is)
    (case k6 => k_is)
    (case a7 => k_is)
    (case l7 => k_is)
    (case c7 => k_is)
    (case k7 => k_is)
    (case a8 => k_is)
    (case l8 => k_is)
    (case c8 => k_is)
    (case k8 => k_is)
    (case a9 => k_is)
    (case l9 => k_is)
    (case c9 => k_is)
    (case k9 => k_is)
    (case a10 => k_is)
    (case l10 => k_is)
    (case c10 => k_is)
    (case k10 => k_is)
    (case a11 => k_is)
    (case l11 => k_is)
    (case c11 => k_is)
    (case k11 => k_is)
    (case a12 => k_is)
    (case l12 => k_is)
    (case c12 => k_is)
    (case k12 => k_is)
    (case a13 => k_is)
    (case l13 => k_is)
    (case c13 => k_is)
    (case k13 => k_is)
    (case a14 => k_is)
    (case l14 => k_is)
    (case c14 => k_is)
    (case k14 => k_is)
    (case a15 => k_is)
    (case l15 => k_is)
    (case c15 => k_is)
    (case k15 => k_is)
    (case a16 => k_is)
    (case l16 => k_is)
    (case c16 => k_is)
    (case k16 => k_is)
    (case a17 => k_is)
    (case l17 => k_is)
    (case c17 => k_is)
    (case k17 => k_is)
    (case a18 => k_is)
    (case l18 => k_is)
    (case c18 => k_is)
    (case k18 => k_is)
    (case a19 => k_is)
    (case l19 => k_is)
    (case c19 => k_is)
    (case k19 => k_is)
    (case a20 => k_is)
    (case l20 => k_is)
    (case c20 => k_is)
    (case k20 => k_is)
    (case a21 => k_is)
    (case l21 => k_is)
    (case c21 => k_is)
    (case k21 => k_is)
    (case xE0 => k_is)
    (case xE1 => k_is)
    (case yE1 => k_exc)
    (case zE1_0 => k_is)
    (case zE1_1 => k_is)
    (case zE1_2 => k_is)
    (case zE1_3 => k_is)
    (case zE1_4 => k_is)
    (case zE1_5 => k_is)
    (case xE2 => k_is)
    (case yE2 => k_exc)
    (case zE2_0 => k_is)
    (case zE2_1 => k_is)
    (case zE2_2 => k_is)
    (case zE2_3 => k_is)
    (case zE2_4 => k_is)
    (case zE2_5 => k_is)
    (case xE3 => k_is)
    (case g_divmod => k_is)
    (case g_len => k_is)
    (case g_all => k_is)
    (case g_isinstance => k_is)
    (case g_str => k_is)
    (case g_range => k_is)
    (case g_max => k_is)
    (case g_min => k_is)
    (case g_bool => k_is)
    (case g_list => k_is)
    (case g_int => k_is)
    (case g_tuple => k_is)
    (case g_set => k_is)
    (case g_sorted => k_is)
    (case g_ValueError => k_is)
    (case g_enumerate => k_is)
    (case g_LONGEST => k_is)
    (case g_MOST_PLACES => k_is)
    (case g_MOST_TIES => k_is)
    (case q1a => k_is)
    (case q1b => kit_is)
    (case q1c => rfl)
    (case q2 => kit_is)
    (case q3 => kit_is)
    (case q4 => kit_is)



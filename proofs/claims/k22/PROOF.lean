import PyProof.Rows.All
import Wide.All
import OpenK.AllK
import Wide.FinOn
import Lean
import PyProof.EqAt
import PyProof.EqKinds
import PyProof.TupleCall
import PyProof.NeKinds
import PyProof.Rows.FactsN_abs
import KE.KDictSum
import PyProof.DictCompW
import KE.KDictOf
import PyProof.AttrMissHeap
import PyProof.DictIter
import KE.KRevSl
import PyProof.EnumFor
import PyProof.EnumMake
import PyProof.EnumStmt
import PyProof.DictUpdate
import PyProof.Rows.SortShellK
import PyProof.Rows.SortStr
import PyProof.DictKinds
import PyProof.TupleKey
import PyProof.ListRange
import PyProof.Rows.CountFlat
import PySem.Challenge.RW_cutmeet_k22_whole_all_cuts
set_option Elab.async false
set_option linter.all false
set_option maxRecDepth 100000
namespace L2
open PySem PySem.Spec PyProof.Rows
abbrev Key:=Sum Int Str
def keyIs:Key->Value->Bool
 | .inl k,v=>Value.isInt k v
 | .inr x,v=>Value.isStrOf x v
def keyH (w:World):Key->Int
 | .inl k=>hashInt k
 | .inr x=>hashStr w x
theorem keyIs_shape:∀ {k:Key} {v:Value},keyIs k v=true->(∃ i t,k=Sum.inl i/\v=Value.int i t)\/(∃ x t,k=Sum.inr x/\v=Value.str x t)
 | .inl i,v,h=>by
  obtain ⟨t,e⟩:=Value.isInt_shape (k:=i) (v:=v) h
  exact .inl ⟨i,t,rfl,e⟩
 | .inr x,v,h=>by
  obtain ⟨t,e⟩:=Value.isStrOf_shape (x:=x) (v:=v) h
  exact .inr ⟨x,t,rfl,e⟩
theorem keyIs_int (i:Int) (t:Tok):keyIs (.inl i) (.int i t)=true:=by simp [keyIs,Value.isInt]
theorem keyIs_str (x:Str) (t:Tok):keyIs (.inr x) (.str x t)=true:=by simp [keyIs,Value.isStrOf]
theorem key_ll (a b:Int):decide ((Sum.inl a:Key)=Sum.inl b)=(a == b):=by
 by_cases e:a=b
 ·subst e;simp
 ·have h:¬ (Sum.inl a:Key)=Sum.inl b:=fun q=>e (Sum.inl.inj q)
  rw [decide_eq_false h]
  exact (beq_eq_false_iff_ne.mpr e).symm
theorem key_rr (a b:Str):decide ((Sum.inr a:Key)=Sum.inr b)=decide (a=b):=by
 by_cases e:a=b
 ·subst e;simp
 ·have h:¬ (Sum.inr a:Key)=Sum.inr b:=fun q=>e (Sum.inr.inj q)
  rw [decide_eq_false h,decide_eq_false e]
theorem key_lr (a:Int) (b:Str):decide ((Sum.inl a:Key)=Sum.inr b)=false:=decide_eq_false (fun q=>nomatch q)
theorem key_rl (a:Str) (b:Int):decide ((Sum.inr a:Key)=Sum.inl b)=false:=decide_eq_false (fun q=>nomatch q)
def mixKind (prog:Program) (w:World):PySem.KeyKind prog w Key where
 is:=keyIs
 hash:=keyH w
 inj:=fun v a b ha hb=>by
  rcases keyIs_shape ha with ⟨i,t,rfl,rfl⟩ | ⟨x,t,rfl,rfl⟩
  ·rcases keyIs_shape hb with ⟨j,u,rfl,e⟩ | ⟨y,u,rfl,e⟩
   ·injection e with e1 _;rw [e1]
   ·exact nomatch e
  ·rcases keyIs_shape hb with ⟨j,u,rfl,e⟩ | ⟨y,u,rfl,e⟩
   ·exact nomatch e
   ·injection e with e1 _;rw [e1]
 byValue:=fun k v h=>by
  rcases keyIs_shape h with ⟨i,t,rfl,rfl⟩ | ⟨x,t,rfl,rfl⟩<;>rfl
 pyHash:=fun hv h=>by
  rcases keyIs_shape hv with ⟨i,t,rfl,rfl⟩ | ⟨x,t,rfl,rfl⟩
  ·exact wpAny_pyHash_int h
  ·exact wpAny_pyHash_str h
 eqBool:=fun hu hv h=>by
  rcases keyIs_shape hu with ⟨i,t,rfl,rfl⟩ | ⟨x,t,rfl,rfl⟩
  ·rcases keyIs_shape hv with ⟨j,u,rfl,rfl⟩ | ⟨y,u,rfl,rfl⟩
   ·rw [key_ll] at h;exact wpAny_eqBool_int h
   ·rw [key_lr] at h;exact SeqAt.EqAt.int_str i t y u _ _ _ _ h
  ·rcases keyIs_shape hv with ⟨j,u,rfl,rfl⟩ | ⟨y,u,rfl,rfl⟩
   ·rw [key_rl] at h;exact SeqAt.EqAt.str_int x t j u _ _ _ _ h
   ·rw [key_rr] at h;exact wpAny_eqBool_str h
 «strs»:=fun k x t v h=>by
  rcases keyIs_shape h with ⟨i,u,rfl,e⟩ | ⟨y,u,rfl,e⟩
  ·exact nomatch e
  ·injection e with e1 _
   subst e1
   cases v<;>rfl
theorem mixKind_int (prog:Program) (w:World) (i:Int) (t:Tok):(mixKind prog w).is (.inl i) (.int i t)=true:=keyIs_int i t
theorem mixKind_str (prog:Program) (w:World) (x:Str) (t:Tok):(mixKind prog w).is (.inr x) (.str x t)=true:=keyIs_str x t
inductive V where
 | non | bl (b:Bool) | int (i:Int) | str (x:Str) | byt (b:Array UInt8) | flt (b:UInt64) | ref (a:Addr) | ty (n:String)
 deriving DecidableEq
def RelV:V->Value->Prop
 | .non,u=>u=Value.none
 | .bl b,u=>u=Value.bool b
 | .int i,u=>∃ t,u=Value.int i t
 | .str x,u=>∃ t,u=Value.str x t
 | .byt b,u=>∃ t,u=Value.bytes b t
 | .flt b,u=>∃ t,u=Value.float b t
 | .ref a,u=>u=Value.ref a
 | .ty n,u=>u=Value.type n
abbrev Vals:List V->List Value->Prop:=Paired RelV
theorem Vals.length {xs:List V} {us:List Value} (r:Vals xs us):xs.length=us.length:=Paired.length r
theorem Vals.get:∀ {xs:List V} {us:List Value} {i:Nat} {x:V},Vals xs us->xs[i]?=some x->∃ u,us[i]?=some u/\RelV x u
 | _,_,_,_,.nil,e=>by simp at e
 | _,_,0,_,.cons r _,e=>by simp at e;subst e;exact ⟨_,rfl,r⟩
 | _,_,i+1,x,.cons _ t,e=>by
  obtain ⟨u,h1,h2⟩:=Vals.get (i:=i) (x:=x) t (by simpa using e)
  exact ⟨u,by simpa using h1,h2⟩
theorem Vals.set {x:V} {u:Value} (r:RelV x u):∀ {xs:List V} {us:List Value} (i:Nat),Vals xs us->Vals (xs.set i x) (us.set i u)
 | _,_,_,.nil=>.nil
 | _,_,0,.cons _ t=>.cons r t
 | _,_,i+1,.cons q t=>.cons q (Vals.set r i t)
theorem Vals.append:∀ {xs ys:List V} {us ws:List Value},Vals xs us->Vals ys ws->Vals (xs++ys) (us++ws)
 | _,_,_,_,.nil,s=>s
 | _,_,_,_,.cons r t,s=>.cons r (Vals.append t s)
theorem Vals.take:∀ {xs:List V} {us:List Value} (n:Nat),Vals xs us->Vals (xs.take n) (us.take n)
 | _,_,0,_=>.nil
 | _,_,_+1,.nil=>.nil
 | _,_,n+1,.cons r t=>.cons r (Vals.take n t)
theorem Vals.drop:∀ {xs:List V} {us:List Value} (n:Nat),Vals xs us->Vals (xs.drop n) (us.drop n)
 | _,_,0,r=>r
 | _,_,_+1,.nil=>.nil
 | _,_,n+1,.cons _ t=>Vals.drop n t
def RelO:Option V->Option Value->Prop
 | some v,some u=>RelV v u
 | none,none=>True
 | _,_=>False
def KV {κ:Type}:List (κ × V)->List (κ × Value)->Prop:=Paired fun (p:κ × V) (q:κ × Value)=>p.1=q.1/\RelV p.2 q.2
def kV:Key->V
 | .inl i=>.int i
 | .inr x=>.str x
inductive HO where
  | lst (xs:List V)
  | tup (xs:List V)
  | dK (kvs:List (Key × V)) | dT (kvs:List (List Key × V))
  | set (S:Int->Bool) (n:Nat)
  | ins (C dx:Addr) (fs:List (Str × V))
  | own (x:Addr)
  | xd (fs:List (Str × V))
  | met (f x:Addr)
  | rng (lo hi:Int)
  | frz (o:Obj) (u:HO)
  | tbl (ps:Array Value)
  | ext (φ:Heap->Prop)
abbrev Hp:=Addr->Option HO
def upd (H:Hp) (a:Addr) (o:HO):Hp:=fun b=>if b=a then some o else H b
theorem upd_same {H:Hp} {a:Addr} {o:HO}:upd H a o a=some o:=by unfold upd;rw [if_pos rfl]
theorem upd_ne {H:Hp} {a b:Addr} {o:HO} (h:b≠a):upd H a o b=H b:=by unfold upd;rw [if_neg h]
theorem upd_upd {H:Hp} {a:Addr} {o u:HO}:upd (upd H a o) a u=upd H a u:=by
 funext b;unfold upd;split<;>rfl
theorem ne_of {H:Hp} {a b:Addr} {o u:HO} (h:H a=some o) (h':H b=some u) (d:o≠u):a≠b:=by
 intro e;subst e;rw [h] at h';exact d (Option.some.inj h')
theorem ne_of_none {H:Hp} {a b:Addr} {o:HO} (h:H a=some o) (h':H b=none):a≠b:=by
 intro e;subst e;rw [h] at h';cases h'
section
variable (P:Program) (w:World)
def ObjOk (H:Hp) (h:Heap) (a:Addr):HO->Prop
 | .lst xs=>xs.length<=sizeLine/\∃ (its:List Value) (n:Nat),Vals xs its/\h.get? a=some { cls:=.type "list",data:=.seq its.toArray n }
 | .tup xs=>xs.length<=sizeLine/\∃ its:List Value,Vals xs its/\IsTup h a its.toArray
 | .dK kvs=>kvs.length<=sizeLine/\(a == sysModules)=false/\∃ vs,KV kvs vs/\h.DictOf (mixKind P w) a vs
 | .dT kvs=>kvs.length<=sizeLine/\(a == sysModules)=false/\∃ xs:List (List Key × Addr × Value),
   Paired (fun (p:List Key × V) (q:List Key × Addr × Value)=>p.1=q.1/\H q.2.1=some (.tup (p.1.map kV))/\RelV p.2 q.2.2) kvs xs /\
   ∃ o es ep,h.get? a=some o/\o.ExactDict/\o.data=.dict es ep/\es.toList=xs.map (entryOfKey (tupleKind (mixKind P w)))/\(xs.map (·.1)).Nodup
 | .set S n=>h.SetOf (intKind P w) a S n
 | .ins C dx fs=>H dx=some (.own a)/\fs.length<=1000/\dx≠a/\h.get? a=some (PySem.W.instObj C dx) /\
   ∃ mA,h.Ns1 dx mA/\(∀ f,RelO (fs.lookup f) (mA f))/\PySem.Within mA (fs.map (·.1))
 | .own _=>∃ o,h.get? a=some o
 | .xd fs=>∃ mA,h.Ns1 a mA/\∀ f,RelO (fs.lookup f) (mA f)
 | .rng lo hi=>∃ t u v,h.get? a=some { cls:=.type "range",data:=.fields #[.int lo t,.int hi u,.int 1 v] }
 | .frz o u=>h.get? a=some o/\ObjOk H h a u
 | .tbl ps=>h.get? a=some { cls:=.none,data:=.fields ps }
 | .met f x=>h.get? a=some (PySem.W.methodObj (.ref f) (.ref x))
 | .ext φ=>φ h/\(∃ o,h.get? a=some o)/\∀ h1 h2:Heap,φ h1->(∀ o,h1.get? a=some o->h2.get? a=some o)->φ h2
def HOk (H:Hp) (h:Heap):Prop:=∀ a o,H a=some o->ObjOk P w H h a o
end
section
variable {P:Program} {w:World} {H H':Hp} {h h':Heap} {a:Addr} {o:HO}
theorem ObjOk.lt (x:ObjOk P w H h a o):a < h.objs.size:=by
 cases o with
 | lst xs=>obtain ⟨_,_,_,_,e⟩:=x;exact Heap.lt_size e
 | tup xs=>obtain ⟨_,_,_,p⟩:=x;exact p.lt
 | dK kvs=>obtain ⟨_,_,_,_,o,_,_,e,_⟩:=x;exact Heap.lt_size e
 | dT kvs=>obtain ⟨_,_,_,_,o,_,_,e,_⟩:=x;exact Heap.lt_size e
 | set S n=>obtain ⟨o,_,_,_,e,_⟩:=x;exact Heap.lt_size e
 | ins C dx fs=>obtain ⟨_,_,_,e,_⟩:=x;exact Heap.lt_size e
 | own y=>obtain ⟨_,e⟩:=x;exact Heap.lt_size e
 | xd fs=>obtain ⟨_,⟨_,_,_,e,_⟩,_⟩:=x;exact Heap.lt_size e
 | rng lo hi=>obtain ⟨_,_,_,e⟩:=x;exact Heap.lt_size e
 | frz ob u=>obtain ⟨e,_⟩:=x;exact Heap.lt_size e
 | tbl ps=>exact Heap.lt_size (show h.get? a=some _ from x)
 | met f y=>exact Heap.lt_size (show h.get? a=some _ from x)
 | ext φ=>obtain ⟨_,⟨_,e⟩,_⟩:=x;exact Heap.lt_size e
theorem Paired.mapP {α β:Type} {F G:α->β->Prop}:∀ {l₁:List α} {l₂:List β},Paired F l₁ l₂->(∀ a b,F a b->G a b)->Paired G l₁ l₂
 | _,_,.nil,_=>.nil
 | _,_,.cons r t,f=>.cons (f _ _ r) (Paired.mapP t f)
theorem ObjOk.stay (x:ObjOk P w H h a o) (k:∀ b u,(b=a\/H b=some (.own a))->h.get? b=some u->h'.get? b=some u)
  (ho:∀ b,H b=some (.own a)->H' b=some (.own a)) (ht:∀ b xs,H b=some (.tup xs)->H' b=some (.tup xs)):ObjOk P w H' h' a o:=by
 induction o with
 | lst xs=>obtain ⟨z,its,n,r,e⟩:=x;exact ⟨z,its,n,r,k _ _ (.inl rfl) e⟩
 | tup xs=>obtain ⟨z,its,r,ob,e,c⟩:=x;exact ⟨z,its,r,ob,k _ _ (.inl rfl) e,c⟩
 | dK kvs=>obtain ⟨z,y,vs,r,ob,es,ep,e,c⟩:=x;exact ⟨z,y,vs,r,ob,es,ep,k _ _ (.inl rfl) e,c⟩
 | dT kvs =>
  obtain ⟨z,y,xs,r,ob,es,ep,e,c⟩:=x
  exact ⟨z,y,xs,Paired.mapP r fun p q z=>⟨z.1,ht _ _ z.2.1,z.2.2⟩,ob,es,ep,k _ _ (.inl rfl) e,c⟩
 | set S n=>obtain ⟨ob,es,ep,t,e,c⟩:=x;exact ⟨ob,es,ep,t,k _ _ (.inl rfl) e,c⟩
 | ins C dx fs =>
  obtain ⟨d,z,ne,e,mA,⟨od,es,ep,e2,c⟩,r⟩:=x
  exact ⟨ho _ d,z,ne,k _ _ (.inl rfl) e,mA,⟨od,es,ep,k _ _ (.inr d) e2,c⟩,r⟩
 | own y=>obtain ⟨ob,e⟩:=x;exact ⟨ob,k _ _ (.inl rfl) e⟩
 | xd fs=>obtain ⟨mA,⟨od,es,ep,e,c⟩,r⟩:=x;exact ⟨mA,⟨od,es,ep,k _ _ (.inl rfl) e,c⟩,r⟩
 | rng lo hi=>obtain ⟨t,u,v,e⟩:=x;exact ⟨t,u,v,k _ _ (.inl rfl) e⟩
 | frz ob u ih=>obtain ⟨e,q⟩:=x;exact ⟨k _ _ (.inl rfl) e,ih q⟩
 | tbl ps =>
  have e:h.get? a=some { cls:=.none,data:=.fields ps }:=x
  show h'.get? a=some { cls:=.none,data:=.fields ps }
  exact k a _ (.inl rfl) e
 | met f y =>
  have e:h.get? a=some (PySem.W.methodObj (.ref f) (.ref y)):=x
  show h'.get? a=some (PySem.W.methodObj (.ref f) (.ref y))
  exact k a _ (.inl rfl) e
 | ext φ=>obtain ⟨p,⟨o,e⟩,st⟩:=x;exact ⟨st _ _ p fun o q=>k _ _ (.inl rfl) q,⟨o,k _ _ (.inl rfl) e⟩,st⟩
theorem HOk.lt (x:HOk P w H h) (e:H a=some o):a < h.objs.size:=(x a o e).lt
theorem HOk.fresh (x:HOk P w H h) (e:h.objs.size<=a):H a=none:=by
 cases q:H a with
 | none=>rfl
 | some u=>exact absurd (Nat.lt_of_lt_of_le (x.lt q) e) (Nat.lt_irrefl _)
theorem HOk.kept (x:HOk P w H h) (k:∀ b u,h.get? b=some u->h'.get? b=some u):HOk P w H h':=fun a o e =>
 (x a o e).stay (fun b u _ q=>k b u q) (fun _ q=>q) fun _ _ q=>q
theorem HOk.laid (x:HOk P w H h) (k:∀ b u,h.get? b=some u->h'.get? b=some u) (hp:h.objs.size<=a) (new:ObjOk P w (upd H a o) h' a o):HOk P w (upd H a o) h':=fun b u e=>by
 have hn:=x.fresh hp
 by_cases hb:b=a
 ·subst hb;rw [upd_same] at e;cases e;exact new
 ·rw [upd_ne hb] at e
  exact (x b u e).stay (fun c v _ q=>k c v q) (fun c q=>by rw [upd_ne (ne_of_none q hn)];exact q) fun c xs q=>by rw [upd_ne (ne_of_none q hn)];exact q
end
def Rd (H:Hp) (a:Addr) (u:HO):Prop:=H a=some u\/∃ o,H a=some (.frz o u)
theorem Rd.ok {P:Program} {w:World} {H:Hp} {h:Heap} {a:Addr} {u:HO} (r:Rd H a u) (x:HOk P w H h):ObjOk P w H h a u:=by
 rcases r with r | ⟨o,r⟩
 ·exact x a u r
 ·obtain ⟨_,q⟩:=x a _ r
  exact q
def Mut:Option HO->Prop
 | some (.lst _)=>True
 | some (.dK _)=>True
 | some (.dT _)=>True
 | some (.set _ _)=>True
 | some (.ins _ _ _)=>True
 | some (.ext _)=>True
 | _=>False
section
variable {P:Program} {w:World} {H:Hp} {h h':Heap} {x e:Addr} {o':HO}
theorem HOk.write (ok:HOk P w H h) (mu:Mut (H x)) (he:e=x\/H e=some (.own x)) (k:∀ b u,b≠e->h.get? b=some u->h'.get? b=some u) (heo:∃ u,h'.get? e=some u)
  (new:ObjOk P w (upd H x o') h' x o'):HOk P w (upd H x o') h':=fun b u q=>by
 have nown:∀ c y,H c=some (.own y)->c≠x:=fun c y r z=>by subst z;rw [r] at mu;exact mu
 have ntup:∀ c xs,H c=some (.tup xs)->c≠x:=fun c xs r z=>by subst z;rw [r] at mu;exact mu
 by_cases hb:b=x
 ·subst hb;rw [upd_same] at q;cases q;exact new
 ·rw [upd_ne hb] at q
  by_cases hbe:b=e
  ·have q':H b=some (.own x):=by
    rcases he with z | z
    ·exact absurd (hbe.trans z) hb
    ·rw [hbe];exact z
   rw [q] at q';cases q'
   obtain ⟨v,hv⟩:=heo
   exact ⟨v,by rw [hbe];exact hv⟩
  ·refine (ok b u q).stay (fun c v hc r=>k c v ?_ r) (fun c r=>by rw [upd_ne (nown c b r)];exact r) fun c xs r=>by rw [upd_ne (ntup c xs r)];exact r
   rcases hc with rfl | hc
   ·exact hbe
   ·rintro rfl
    rcases he with z | z
    ·exact nown c b hc z
    ·rw [hc] at z;cases z;exact hb rfl
end
structure Un (fs ex:List Addr) (H H':Hp) (h h':Heap):Prop where
 keep:∀ b o,h.get? b=some o->H b=none->b ∉ fs->b ∉ ex->h'.get? b=some o
 slot:∀ b o,h.get? b=some o->H b=none->b∈fs->b ∉ ex->∃ sl,h'.get? b=some { o with slots:=sl }
 free:∀ b o,h.get? b=some o->H b=none->b ∉ ex->H' b=none
 there:∀ b o,h.get? b=some o->b ∉ ex->∃ o',h'.get? b=some o'
 tups:∀ b xs,H b=some (.tup xs)->H' b=some (.tup xs)
 frzs:∀ b o u,H b=some (.frz o u)->H' b=some (.frz o u)
 tbls:∀ b ps,H b=some (.tbl ps)->∃ more,H' b=some (.tbl (ps++more))
section
variable {fs fs' ex ex':List Addr} {H H1 H2:Hp} {h h1 h2 h':Heap} {a x e:Addr} {o:HO}
theorem Un.any (u:Un fs ex H H1 h h1) {b:Addr} {ob:Obj} (q:h.get? b=some ob) (n:H b=none) (hx:b ∉ ex):∃ sl,h1.get? b=some { ob with slots:=sl }:=by
 by_cases hb:b∈fs
 ·exact u.slot b ob q n hb hx
 ·exact ⟨ob.slots,u.keep b ob q n hb hx⟩
theorem Un.kept (k:∀ b u,h.get? b=some u->h'.get? b=some u):Un fs ex H H h h' :=
 ⟨fun b ob q _ _ _=>k b ob q,fun b ob q _ _ _=>⟨ob.slots,k b ob q⟩,fun _ _ _ n _=>n,fun b ob q _=>⟨ob,k b ob q⟩,fun _ _ q=>q,fun _ _ _ q=>q,fun _ ps q=>⟨#[],by rw [q];simp⟩⟩
theorem Un.refl:Un fs ex H H h h:=Un.kept fun _ _ q=>q
theorem Un.laid (k:∀ b u,h.get? b=some u->h'.get? b=some u) (hp:h.objs.size<=a) (hn:H a=none):Un fs ex H (upd H a o) h h' where
 keep:=fun b u q _ _ _=>k b u q
 slot:=fun b u q _ _ _=>⟨u.slots,k b u q⟩
 free:=fun b u q n _=>by rw [upd_ne (Nat.ne_of_lt (Nat.lt_of_lt_of_le (Heap.lt_size q) hp))];exact n
 there:=fun b u q _=>⟨u,k b u q⟩
 tups:=fun b xs q=>by rw [upd_ne (ne_of_none q hn)];exact q
 frzs:=fun b u xs q=>by rw [upd_ne (ne_of_none q hn)];exact q
 tbls:=fun b ps q=>⟨#[],by rw [upd_ne (ne_of_none q hn),q];simp⟩
theorem Un.write (mu:Mut (H x)) (he:e=x\/H e=some (.own x)) (k:∀ b u,b≠e->h.get? b=some u->h'.get? b=some u) (heo:∃ u,h'.get? e=some u):Un fs ex H (upd H x o) h h':=by
 have hx:∀ b,H b=none->b≠x:=fun b n z=>by subst z;rw [n] at mu;exact mu
 have hb:∀ b,H b=none->b≠e:=fun b n z=>by
  subst z
  rcases he with r | r
  ·exact hx b n r
  ·rw [n] at r;cases r
 have hm:∀ b u,H b=some u->¬ Mut (some u)->b≠x:=fun b u q nm z=>by subst z;rw [q] at mu;exact nm mu
 refine ⟨fun b u q n _ _=>k b u (hb b n) q,fun b u q n _ _=>⟨u.slots,k b u (hb b n) q⟩,fun b u q n _=>by rw [upd_ne (hx b n)];exact n,fun b u q _=>?_,
  fun b xs q=>by rw [upd_ne (hm b _ q fun z=>z)];exact q,fun b u xs q=>by rw [upd_ne (hm b _ q fun z=>z)];exact q,fun b ps q=>⟨#[],by rw [upd_ne (hm b _ q fun z=>z),q];simp⟩⟩
 by_cases hbe:b=e
 ·subst hbe;exact heo
 ·exact ⟨u,k b u hbe q⟩
end
def trk (h:Heap) (H:Hp):List Addr:=(List.range h.objs.size).filter fun a=>(H a).isSome
def hidT (h:Heap) (H:Hp):Heap:=PySem.W.hideAll h (trk h H)
theorem hidT_size (h:Heap) (H:Hp):(hidT h H).objs.size=h.objs.size:=PySem.W.hideAll_size _ _
theorem hidT_get {h:Heap} {H:Hp} {b:Addr} {o:Obj} (e:h.get? b=some o) (n:H b=none):(hidT h H).get? b=some o :=
 PySem.W.hideAll_get _ e fun hm=>by
  have q:(H b).isSome=true:=(List.mem_filter.mp hm).2
  rw [n] at q;simp at q
theorem of_hidT {h:Heap} {H:Hp} {b:Addr} {o:Obj} (e:(hidT h H).get? b=some o):h.get? b=some o/\H b=none:=by
 have e':h.get? b=some o:=PySem.W.of_hideAll (trk h H) e
 refine ⟨e',?_⟩
 cases q:H b with
 | none=>rfl
 | some x =>
  have hm:b∈trk h H:=List.mem_filter.mpr ⟨List.mem_range.mpr (Heap.lt_size e'),by simp [q]⟩
  have z:(hidT h H).get? b=none:=PySem.W.hideAll_none (trk h H) hm
  rw [z] at e;cases e
def allNews (g h:Heap) (L:Addr):List (Addr × Obj):=(List.range h.objs.size).filterMap fun a=>if a=L\/(g.get? a).isSome=true then none else (h.get? a).map fun o=>(a,o)
def rest (g h:Heap) (L d:Addr):List (Addr × Obj):=(allNews g h L).filter fun p=>decide (p.1≠d)
structure Mod (K:PySem.W.Frag) (mg:Str->Option Value) (base:Heap):Prop where
 kin:K.In base
 glob:base.Ns mainGlobals mg
 blt:∃ mb,base.Ns builtinsNs mb/\∀ x:Str,x≠"__name__" -> mb x=bootBuiltins x
 nolimit:base.NoLimit
structure Cx where
 prog:Program
 w:World
 K:PySem.W.Frag
 mg:Str->Option Value
 base:Heap
 A:Around
 N:List Str
 s₀:Shared
 H₀:Hp
 env:Env
 outer:List Env
 stack:List Env
 ex:List Addr
 fn:Str->Bool
 calm:Bool
 pn:List (Addr × Obj)
 xe:Value->Shared->Prop
def frs (l:List Env):List Addr:=l.filterMap (·.frame)
abbrev Cx.fs (X:Cx):List Addr:=frs X.outer
def Vis (sc:Scope) (x:Str):Prop:=sc.names.lookup x=some .local\/sc.names.lookup x=some .cell\/sc.names.lookup x=some .free
def Loc (sc:Scope) (x:Str):Prop:=sc.names.lookup x=some .local\/sc.names.lookup x=some .cell
def Look (env:Env) (h:Heap) (m:Str->Option Value) (x:Str) (u:Value):Prop :=
 (env.kindOf x=some .local/\m x=some u)\/((env.kindOf x=some .cell\/env.kindOf x=some .free)/\∃ c,env.cells.lookup x=some c/\h.IsCell c (some u))
structure Cx.Ok (X:Cx):Prop where
 mod:Mod X.K X.mg X.base
 kind:X.env.scope.kind=.function
 glob:X.env.globals=mainGlobals
 blt:X.env.builtins=builtinsNs
 above:X.s₀.heap.objs.size<=X.env.locals
 inj:∀ x y c,X.env.cells.lookup x=some c->X.env.cells.lookup y=some c->x=y
 has:∀ x,(X.env.kindOf x=some .cell\/X.env.kindOf x=some .free)->∃ c,X.env.cells.lookup x=some c
 cab:∀ x c,X.fn x=true->X.env.cells.lookup x=some c->X.s₀.heap.objs.size<=c
 hd:X.calm=true->X.A.handled=none
 frames:X.A.frames=some X.stack
 stk:X.stack=X.outer\/(X.stack=X.env::X.outer/\X.env.frame=some X.env.locals)
 exf:∀ b∈X.ex,b≠X.env.locals/\∀ x c,X.env.cells.lookup x=some c->c≠b
 bs:∀ b o,X.base.get? b=some o->X.s₀.heap.get? b=some o/\X.H₀ b=none
 bsz:X.base.objs.size<=X.s₀.heap.objs.size
 noex:∀ b o,X.base.get? b=some o->b ∉ X.ex
 exfs:∀ b∈X.ex,b ∉ X.fs
 funs:X.s₀.heap.FunFrames X.base X.outer
 frf:∀ b∈X.fs,X.H₀ b=none
structure Inv (X:Cx) (pins:List (Addr × Obj)) (σ:List (Option V)) (H:Hp) (s:Shared):Prop where
 ok:X.Ok
 os:s.os=X.s₀.os
 bare:AllBare s.gens
 base:Un X.fs X.ex X.H₀ H X.s₀.heap s.heap
 loc:∃ m,s.heap.Ns X.env.locals m/\∀ (i:Nat) (x:Str) (v:V),X.N[i]?=some x->σ[i]?=some (some v)->Vis X.env.scope x->∃ u,RelV v u/\Look X.env s.heap m x u
 cell:∀ x c,X.env.cells.lookup x=some c->∃ v,s.heap.IsCell c v
 free:H X.env.locals=none
 freeC:∀ x c,X.env.cells.lookup x=some c->H c=none
 pin:∀ p∈X.pn++pins,s.heap.get? p.1=some p.2/\H p.1=none/\p.1≠X.env.locals/\p.1 ∉ X.fs/\∀ v,p.2.data≠.cell v
 hok:HOk X.prog X.w H s.heap
 len:σ.length=X.N.length
section
variable {X:Cx} {pins:List (Addr × Obj)} {σ:List (Option V)} {H H':Hp} {s:Shared} {h':Heap}
theorem Cx.Ok.nofr (ok:X.Ok) {b:Addr} {o:Obj} (e:X.base.get? b=some o):b ∉ X.fs:=fun hb=>by
 have:=(ok.funs.mem hb).1
 rw [e] at this;cases this
theorem Inv.bs (I:Inv X pins σ H s):∀ b o,X.base.get? b=some o->s.heap.get? b=some o/\H b=none:=fun b o e =>
 ⟨I.base.keep b o (I.ok.bs b o e).1 (I.ok.bs b o e).2 (I.ok.nofr e) (I.ok.noex b o e),I.base.free b o (I.ok.bs b o e).1 (I.ok.bs b o e).2 (I.ok.noex b o e)⟩
theorem Inv.bk (I:Inv X pins σ H s):∀ b o,X.base.get? b=some o->s.heap.get? b=some o:=fun b o e=>(I.bs b o e).1
theorem Inv.mod (I:Inv X pins σ H s):Mod X.K X.mg X.base:=I.ok.mod
theorem Inv.kIn (I:Inv X pins σ H s):X.K.In s.heap:=I.ok.mod.kin.keeps I.bk
theorem Inv.lt (I:Inv X pins σ H s):X.env.locals < s.heap.objs.size:=let ⟨_,hn,_⟩:=I.loc;hn.lt
theorem Inv.sz (I:Inv X pins σ H s):X.s₀.heap.objs.size<=s.heap.objs.size:=Nat.le_trans I.ok.above (Nat.le_of_lt I.lt)
theorem Inv.nofs (I:Inv X pins σ H s) {a:Addr} (h:s.heap.objs.size<=a):a ∉ X.fs:=fun hb=>by
 obtain ⟨_,o,ho,_⟩:=I.ok.funs.mem hb
 exact absurd (Nat.lt_of_lt_of_le (Heap.lt_size ho) (Nat.le_trans I.sz h)) (Nat.lt_irrefl _)
theorem Inv.cne (I:Inv X pins σ H s):∀ x c,X.env.cells.lookup x=some c->c≠X.env.locals:=fun x c e z=>by
 obtain ⟨v,o,ho,hd⟩:=I.cell x c e
 obtain ⟨m,⟨o',es,ep,ho',hd',_⟩,_⟩:=I.loc
 rw [z,ho'] at ho;cases ho;rw [hd'] at hd;cases hd
theorem Inv.funs (I:Inv X pins σ H s):s.heap.FunFrames X.base X.outer:=by
 have all:∀ (l:List Env),(∀ b∈frs l,b∈X.fs)->X.s₀.heap.FunFrames X.base l->s.heap.FunFrames X.base l:=by
  intro l
  induction l with
  | nil=>intro _ _;trivial
  | cons env r ih =>
   intro hs hl
   obtain ⟨hk,⟨L,o,hf,hn,ho,hd⟩,hr⟩:=hl
   have hL:L∈X.fs:=hs L (by unfold frs;rw [List.filterMap_cons,hf];exact List.mem_cons_self)
   obtain ⟨sl,e⟩:=I.base.slot L o ho (I.ok.frf L hL) hL fun z=>I.ok.exfs L z hL
   exact ⟨hk,⟨L,_,hf,hn,e,hd⟩,ih (fun b hb=>hs b (by unfold frs;rw [List.filterMap_cons,hf];exact List.mem_cons_of_mem _ hb)) hr⟩
 exact all X.outer (fun _ hb=>hb) I.ok.funs
theorem Inv.stack (I:Inv X pins σ H s):s.heap.FunFrames X.base X.stack:=by
 rcases I.ok.stk with e | ⟨e,hf⟩
 ·rw [e];exact I.funs
 ·rw [e]
  obtain ⟨m,hn,_⟩:=I.loc
  refine .cons (by rw [I.ok.kind];decide) hf hn ?_ I.funs
  exact Heap.get?_none_of_le (Nat.le_trans I.ok.bsz I.ok.above)
theorem Inv.stkSub (I:Inv X pins σ H s):∀ b∈frs X.stack,b∈X.env.locals::X.fs:=fun b hb=>by
 rcases I.ok.stk with e | ⟨e,hf⟩
 ·rw [e] at hb;exact List.mem_cons_of_mem _ hb
 ·rw [e] at hb
  unfold frs at hb
  rw [List.filterMap_cons,hf] at hb
  exact hb
theorem Inv.stkFree (I:Inv X pins σ H s):∀ b∈frs X.stack,H b=none:=fun b hb=>by
 rcases List.mem_cons.mp (I.stkSub b hb) with e | hb
 ·rw [e];exact I.free
 ·obtain ⟨_,o,ho,_⟩:=I.ok.funs.mem hb
  exact I.base.free b o ho (I.ok.frf b hb) fun z=>I.ok.exfs b z hb
theorem Inv.step {g':Array GenState} {t':Nat} {d':Drawn} {ch:List Addr} (I:Inv X pins σ H s)
  (hch:∀ b∈ch,(b∈X.ex\/X.s₀.heap.objs.size<=b)/\b≠X.env.locals/\(∀ x c,X.env.cells.lookup x=some c->c≠b)/\∀ p∈X.pn++pins,p.1≠b)
  (keep:∀ b o,b≠X.env.locals->b ∉ X.fs->b ∉ ch->s.heap.get? b=some o->H b=none->h'.get? b=some o)
  (slot:∀ b o,b≠X.env.locals->b∈X.fs->b ∉ ch->s.heap.get? b=some o->H b=none->∃ sl,h'.get? b=some { o with slots:=sl }) (free:∀ b o,b ∉ ch->s.heap.get? b=some o->H b=none->H' b=none)
  (there:∀ b o,b ∉ ch->s.heap.get? b=some o->∃ o',h'.get? b=some o')
  (tups:∀ b xs,H b=some (.tup xs)->H' b=some (.tup xs)) (frzs:∀ b o u,H b=some (.frz o u)->H' b=some (.frz o u)) (tbls:∀ b ps,H b=some (.tbl ps)->∃ more,H' b=some (.tbl (ps++more)))
  (ns:∀ m,s.heap.Ns X.env.locals m->h'.Ns X.env.locals m) (hok:HOk X.prog X.w H' h') (hg:AllBare g') :
  Inv X pins σ H' { s with heap:=h',gens:=g',drawn:=d',toks:=t' }:=by
 have neL:∀ b o,X.s₀.heap.get? b=some o->b≠X.env.locals:=fun b o e=>Nat.ne_of_lt (Nat.lt_of_lt_of_le (Heap.lt_size e) I.ok.above)
 have neC:∀ b o,X.s₀.heap.get? b=some o->b ∉ X.ex->b ∉ ch:=fun b o e hx hb=>by
  rcases (hch b hb).1 with z | z
  ·exact hx z
  ·exact absurd (Nat.lt_of_lt_of_le (Heap.lt_size e) z) (Nat.lt_irrefl _)
 have cellK:∀ x c,X.env.cells.lookup x=some c->∀ v,s.heap.IsCell c v->h'.IsCell c v:=fun x c e v ⟨o,ho,hd⟩=>by
  have nch:c ∉ ch:=fun z=>(hch c z).2.2.1 x c e rfl
  by_cases hc:c∈X.fs
  ·obtain ⟨sl,q⟩:=slot c o (I.cne x c e) hc nch ho (I.freeC x c e)
   exact ⟨_,q,hd⟩
  ·exact ⟨o,keep c o (I.cne x c e) hc nch ho (I.freeC x c e),hd⟩
 refine ⟨I.ok,I.os,hg,⟨fun b o e n hb hx=>?_,fun b o e n hb hx=>?_,fun b o e n hx=>?_,fun b o e hx=>?_,fun b xs e=>tups b xs (I.base.tups b xs e),fun b o xs e=>frzs b o xs (I.base.frzs b o xs e),fun b ps e=>?_⟩,?_,fun x c e=>?_,?_,fun x c e=>?_,fun p hp=>?_,hok,I.len⟩
 ·exact keep b o (neL b o e) hb (neC b o e hx) (I.base.keep b o e n hb hx) (I.base.free b o e n hx)
 ·obtain ⟨sl,e1⟩:=I.base.slot b o e n hb hx
  obtain ⟨sl',e2⟩:=slot b _ (neL b o e) hb (neC b o e hx) e1 (I.base.free b o e n hx)
  exact ⟨sl',e2⟩
 ·obtain ⟨o',e1⟩:=I.base.there b o e hx
  exact free b o' (neC b o e hx) e1 (I.base.free b o e n hx)
 ·obtain ⟨o',e1⟩:=I.base.there b o e hx
  exact there b o' (neC b o e hx) e1
 ·obtain ⟨m1,e1⟩:=I.base.tbls b ps e
  obtain ⟨m2,e2⟩:=tbls b _ e1
  exact ⟨m1++m2,by rw [e2,Array.append_assoc]⟩
 ·obtain ⟨m,hn,hl⟩:=I.loc
  refine ⟨m,ns m hn,fun i x v e1 e2 e3=>?_⟩
  obtain ⟨u,r,l⟩:=hl i x v e1 e2 e3
  refine ⟨u,r,?_⟩
  rcases l with l | ⟨k,c,e,z⟩
  ·exact .inl l
  ·exact .inr ⟨k,c,e,cellK x c e _ z⟩
 ·obtain ⟨v,z⟩:=I.cell x c e
  exact ⟨v,cellK x c e v z⟩
 ·obtain ⟨m,⟨o,_,_,ho,_⟩,_⟩:=I.loc
  exact free _ o (fun z=>(hch _ z).2.1 rfl) ho I.free
 ·obtain ⟨v,o,ho,hd⟩:=I.cell x c e
  exact free c o (fun z=>(hch c z).2.2.1 x c e rfl) ho (I.freeC x c e)
 ·obtain ⟨e,n,ne,nf,d⟩:=I.pin p hp
  have nch:p.1 ∉ ch:=fun z=>(hch p.1 z).2.2.2 p hp rfl
  exact ⟨keep p.1 p.2 ne nf nch e n,free p.1 p.2 nch e n,ne,nf,d⟩
theorem Inv.un {t':Nat} (I:Inv X pins σ H s) (u:Un X.fs [] H H' s.heap h') (hok:HOk X.prog X.w H' h'):Inv X pins σ H' { s with heap:=h',toks:=t' }:=by
 obtain ⟨m,⟨o,es,ep,ho,r⟩,_⟩:=id I.loc
 obtain ⟨sl,hL⟩:=u.any ho I.free (by simp)
 exact I.step (g':=s.gens) (d':=s.drawn) (ch:=[]) (fun _ z=>nomatch z) (fun b o _ hb _ e n=>u.keep b o e n hb (by simp)) (fun b o _ hb _ e n=>u.slot b o e n hb (by simp)) (fun b o _ e n=>u.free b o e n (by simp)) (fun b o _ e=>u.there b o e (by simp)) u.tups u.frzs u.tbls (fun m' hm=>by
  obtain ⟨o',es',ep',ho',r'⟩:=hm
  rw [ho] at ho';cases ho'
  exact ⟨_,es',ep',hL,r'⟩) hok I.bare
theorem Inv.call {g':Array GenState} {t':Nat} {d':Drawn} {ch:List Addr} (I:Inv X pins σ H s) (u:Un (frs X.stack) ch H H' s.heap h') (hok:HOk X.prog X.w H' h') (hg:AllBare g')
  (hch:∀ b∈ch,(b∈X.ex\/X.s₀.heap.objs.size<=b)/\b≠X.env.locals/\(∀ x c,X.env.cells.lookup x=some c->c≠b)/\∀ p∈X.pn++pins,p.1≠b) :
  Inv X pins σ H' { s with heap:=h',gens:=g',drawn:=d',toks:=t' }:=by
 obtain ⟨m,⟨o,es,ep,ho,r⟩,_⟩:=id I.loc
 obtain ⟨sl,hL⟩:=u.any ho I.free fun z=>(hch _ z).2.1 rfl
 exact I.step (ch:=ch) hch (fun b o hL hb hc e n=>u.keep b o e n (fun z=>(List.mem_cons.mp (I.stkSub b z)).elim hL hb) hc) (fun b o _ _ hc e n=>u.any e n hc) (fun b o hc e n=>u.free b o e n hc) (fun b o hc e=>u.there b o e hc) u.tups u.frzs u.tbls (fun m' hm=>by
  obtain ⟨o',es',ep',ho',r'⟩:=hm
  rw [ho] at ho';cases ho'
  exact ⟨_,es',ep',hL,r'⟩) hok hg
theorem Inv.turned {t':Nat} {it:Addr} (I:Inv X pins σ H s) (k:∀ b o,b≠it->s.heap.get? b=some o->h'.get? b=some o) (hn:H it=none) (hL:it≠X.env.locals)
  (h1:it∈X.ex\/X.s₀.heap.objs.size<=it) (h2:∀ x c,X.env.cells.lookup x=some c->c≠it) (h3:∀ p∈X.pn++pins,p.1≠it):Inv X pins σ H { s with heap:=h',toks:=t' }:=by
 have nit:∀ b u,H b=some u->b≠it:=fun b u e z=>by rw [z,hn] at e;cases e
 refine I.step (g':=s.gens) (d':=s.drawn) (ch:=[it]) (fun b hb=>?_) (fun b o _ _ hc e _=>k b o (fun z=>hc (by simp [z])) e) (fun b o _ _ hc e _=>⟨o.slots,k b o (fun z=>hc (by simp [z])) e⟩) (fun _ _ _ _ n=>n)
  (fun b o hc e=>⟨o,k b o (fun z=>hc (by simp [z])) e⟩) (fun _ _ e=>e) (fun _ _ _ e=>e) (fun b ps e=>⟨#[],by rw [e];simp⟩) (fun m hm=>?_) (fun b u e=>?_) I.bare
 ·have e:b=it:=by simpa using hb
  subst e
  exact ⟨h1,hL,h2,h3⟩
 ·obtain ⟨o,es,ep,ho,r⟩:=hm
  exact ⟨o,es,ep,k _ o (Ne.symm hL) ho,r⟩
 ·refine (I.hok b u e).stay (fun c v hc q=>k c v ?_ q) (fun _ q=>q) fun _ _ q=>q
  rcases hc with z | z
  ·rw [z];exact nit b u e
  ·exact nit c _ z
theorem Inv.tok (I:Inv X pins σ H s) (t:Nat):Inv X pins σ H { s with toks:=t }:=I.un (h':=s.heap) (t':=t) Un.refl I.hok
theorem Inv.kept {t':Nat} (I:Inv X pins σ H s) (k:∀ b u,s.heap.get? b=some u->h'.get? b=some u):Inv X pins σ H { s with heap:=h',toks:=t' }:=I.un (Un.kept k) (I.hok.kept k)
theorem Inv.laid {a:Addr} {o:HO} {t':Nat} (I:Inv X pins σ H s) (k:∀ b u,s.heap.get? b=some u->h'.get? b=some u) (hp:s.heap.objs.size<=a) (new:ObjOk X.prog X.w (upd H a o) h' a o) :
  Inv X pins σ (upd H a o) { s with heap:=h',toks:=t' }:=I.un (Un.laid k hp (I.hok.fresh hp)) (I.hok.laid k hp new)
theorem Inv.write {x e:Addr} {o:HO} {t':Nat} (I:Inv X pins σ H s) (mu:Mut (H x)) (he:e=x\/H e=some (.own x)) (k:∀ b u,b≠e->s.heap.get? b=some u->h'.get? b=some u) (heo:∃ u,h'.get? e=some u)
  (new:ObjOk X.prog X.w (upd H x o) h' x o):Inv X pins σ (upd H x o) { s with heap:=h',toks:=t' }:=I.un (Un.write mu he k heo) (I.hok.write mu he k heo new)
theorem Inv.weak {σ':List (Option V)} (I:Inv X pins σ H s) (hl:σ'.length=σ.length) (w:∀ (i:Nat) v,σ'[i]?=some (some v)->σ[i]?=some (some v)):Inv X pins σ' H s :=
 ⟨I.ok,I.os,I.bare,I.base,let ⟨m,hn,hl'⟩:=I.loc;⟨m,hn,fun i x v e1 e2 e3=>hl' i x v e1 (w i v e2) e3⟩,I.cell,I.free,I.freeC,I.pin,I.hok,hl.trans I.len⟩
theorem Inv.pins_of {pins':List (Addr × Obj)} (I:Inv X pins σ H s) (h:∀ p∈pins',s.heap.get? p.1=some p.2/\H p.1=none/\p.1≠X.env.locals/\p.1 ∉ X.fs/\∀ v,p.2.data≠.cell v):Inv X pins' σ H s :=
 ⟨I.ok,I.os,I.bare,I.base,I.loc,I.cell,I.free,I.freeC,fun p hp=>(List.mem_append.mp hp).elim (fun z=>I.pin p (List.mem_append_left _ z)) (h p),I.hok,I.len⟩
theorem nodup_ix {N:List Str} (hN:N.Nodup) {i j:Nat} {x:Str} (a:N[i]?=some x) (b:N[j]?=some x):i=j:=by
 obtain ⟨h1,e1⟩:=List.getElem?_eq_some_iff.mp a
 obtain ⟨h2,e2⟩:=List.getElem?_eq_some_iff.mp b
 exact (List.getElem_inj hN).mp (e1.trans e2.symm)
theorem store_ok2 {M:Model} {A:Around} {E:Value->Shared->Prop} {i:Nat} {x:Str} {v:V} {u:Value} {Q:Unit->Shared->Prop} (I:Inv X pins σ H s) (hN:X.N.Nodup) (hi:X.N[i]?=some x) (hx:Loc X.env.scope x) (r:RelV v u)
  (h:∀ s',Inv X pins (σ.set i (some v)) H s'->(∃ a,Heap.SameBut a s.heap s'.heap/\(a=X.env.locals\/X.env.cells.lookup x=some a))->Q () s') (hf:X.fn x=true\/X.env.scope.names.lookup x=some .local:=by first | exact .inl rfl | exact .inr rfl | assumption):wpAny M A (storeName X.env x u) Q E s:=by
 obtain ⟨m,hn,hl⟩:=id I.loc
 have hcls:(X.env.scope.kind == .class || (X.env.scope.kind == .module && X.env.locals != X.env.globals))=false:=by rw [I.ok.kind];rfl
 have hiσ:i < σ.length:=by rw [I.len];exact (List.getElem?_eq_some_iff.mp hi).1
 have cne:=I.cne
 have tracked:∀ {a:Addr} {h':Heap},(∃ o,s.heap.get? a=some o/\H a=none)->Heap.SameBut a s.heap h'->HOk X.prog X.w H h':=fun {a h'} ha hs b ob e=>by
  obtain ⟨_,_,hfree⟩:=ha
  refine (I.hok b ob e).stay (fun c w' hc q=>(hs.2 c ?_).trans q) (fun _ q=>q) fun _ _ q=>q
  rintro rfl
  rcases hc with rfl | hc
  ·rw [hfree] at e;cases e
  ·rw [hfree] at hc;cases hc
 rcases hx with hk | hk
 ·refine wpAny_storeName_local hk hn (fun h' hn' hs=>?_) hcls
  obtain ⟨oL,_,_,hoL,_⟩:=id hn
  refine h _ ⟨I.ok,I.os,I.bare,⟨fun b o e n hb hx=>?_,fun b o e n hb hx=>?_,I.base.free,fun b o e hx=>?_,I.base.tups,I.base.frzs,I.base.tbls⟩,⟨_,hn',fun j y v' e1 e2 e3=>?_⟩,fun y c e=>?_,I.free,I.freeC,fun p hp=>?_,tracked ⟨oL,hoL,I.free⟩ hs,by simpa using I.len⟩ ⟨_,hs,.inl rfl⟩
  ·exact (hs.2 b (Nat.ne_of_lt (Nat.lt_of_lt_of_le (Heap.lt_size e) I.ok.above))).trans (I.base.keep b o e n hb hx)
  ·obtain ⟨sl,e1⟩:=I.base.slot b o e n hb hx
   exact ⟨sl,(hs.2 b (Nat.ne_of_lt (Nat.lt_of_lt_of_le (Heap.lt_size e) I.ok.above))).trans e1⟩
  ·obtain ⟨o',e1⟩:=I.base.there b o e hx
   exact ⟨o',(hs.2 b (Nat.ne_of_lt (Nat.lt_of_lt_of_le (Heap.lt_size e) I.ok.above))).trans e1⟩
  ·by_cases hj:j=i
   ·subst hj
    rw [hi] at e1;cases e1
    rw [List.getElem?_set_self hiσ] at e2
    cases e2
    exact ⟨u,r,.inl ⟨hk,by simp⟩⟩
   ·rw [List.getElem?_set_ne (Ne.symm hj)] at e2
    obtain ⟨u',r',q⟩:=hl j y v' e1 e2 e3
    refine ⟨u',r',?_⟩
    rcases q with ⟨k,e⟩ | ⟨k,c,e,z⟩
    ·refine .inl ⟨k,?_⟩
     have:y≠x:=fun e=>hj (nodup_ix hN e1 (e ▸ hi))
     simp [this,e]
    ·exact .inr ⟨k,c,e,z.sameBut hs (cne y c e)⟩
  ·obtain ⟨w',z⟩:=I.cell y c e
   exact ⟨w',z.sameBut hs (cne y c e)⟩
  ·obtain ⟨e,n,ne,nf,d⟩:=I.pin p hp
   exact ⟨(hs.2 p.1 ne).trans e,n,ne,nf,d⟩
 ·have hfn:X.fn x=true:=by
   rcases hf with z | z
   ·exact z
   ·rw [z] at hk;cases hk
  obtain ⟨c,hc⟩:=I.ok.has x (.inl hk)
  obtain ⟨w',z⟩:=I.cell x c hc
  refine wpAny_storeName_cell I.ok.kind hk hc z (fun h' hc' hs=>?_)
  obtain ⟨oc,hoc,hocd⟩:=id z
  refine h { s with heap:=h' } ⟨I.ok,I.os,I.bare,⟨fun b o e n hb hx=>?_,fun b o e n hb hx=>?_,I.base.free,fun b o e hx=>?_,I.base.tups,I.base.frzs,I.base.tbls⟩,⟨m,hn.sameBut hs (Ne.symm (cne x c hc)),fun j y v' e1 e2 e3=>?_⟩,fun y c' e=>?_,I.free,I.freeC,fun p hp=>?_,tracked ⟨oc,hoc,I.freeC x c hc⟩ hs,by simpa using I.len⟩ ⟨c,hs,.inr hc⟩
  ·exact (hs.2 b (Nat.ne_of_lt (Nat.lt_of_lt_of_le (Heap.lt_size e) (I.ok.cab x c hfn hc)))).trans (I.base.keep b o e n hb hx)
  ·obtain ⟨sl,e1⟩:=I.base.slot b o e n hb hx
   exact ⟨sl,(hs.2 b (Nat.ne_of_lt (Nat.lt_of_lt_of_le (Heap.lt_size e) (I.ok.cab x c hfn hc)))).trans e1⟩
  ·obtain ⟨o',e1⟩:=I.base.there b o e hx
   exact ⟨o',(hs.2 b (Nat.ne_of_lt (Nat.lt_of_lt_of_le (Heap.lt_size e) (I.ok.cab x c hfn hc)))).trans e1⟩
  ·by_cases hj:j=i
   ·subst hj
    rw [hi] at e1;cases e1
    rw [List.getElem?_set_self hiσ] at e2
    cases e2
    exact ⟨u,r,.inr ⟨.inl hk,c,hc,hc'⟩⟩
   ·rw [List.getElem?_set_ne (Ne.symm hj)] at e2
    obtain ⟨u',r',q⟩:=hl j y v' e1 e2 e3
    refine ⟨u',r',?_⟩
    rcases q with q | ⟨k,c',e,z'⟩
    ·exact .inl q
    ·refine .inr ⟨k,c',e,z'.sameBut hs ?_⟩
     rintro rfl
     exact hj (nodup_ix hN e1 (I.ok.inj _ _ _ e hc ▸ hi))
  ·by_cases hcc:c'=c
   ·subst hcc;exact ⟨_,hc'⟩
   ·obtain ⟨w2,z2⟩:=I.cell y c' e
    exact ⟨w2,z2.sameBut hs hcc⟩
  ·obtain ⟨e,n,ne,nf,d⟩:=I.pin p hp
   refine ⟨(hs.2 p.1 ?_).trans e,n,ne,nf,d⟩
   intro q
   rw [q,hoc] at e
   have q':oc=p.2:=Option.some.inj e
   exact d w' (by rw [<- q'];exact hocd)
theorem store_ok {M:Model} {A:Around} {E:Value->Shared->Prop} {i:Nat} {x:Str} {v:V} {u:Value} {Q:Unit->Shared->Prop} (I:Inv X pins σ H s) (hN:X.N.Nodup) (hi:X.N[i]?=some x) (hx:Loc X.env.scope x) (r:RelV v u)
  (h:∀ s',Inv X pins (σ.set i (some v)) H s'->Q () s') (hf:X.fn x=true\/X.env.scope.names.lookup x=some .local:=by first | exact .inl rfl | exact .inr rfl | assumption):wpAny M A (storeName X.env x u) Q E s :=
 store_ok2 I hN hi hx r (fun s' I' _=>h s' I') hf
theorem Inv.call' {s':Shared} {ch:List Addr} (I:Inv X pins σ H s) (ho:s'.os=s.os) (u:Un (frs X.stack) ch H H' s.heap s'.heap) (hok:HOk X.prog X.w H' s'.heap) (hg:AllBare s'.gens)
  (hch:∀ b∈ch,(b∈X.ex\/X.s₀.heap.objs.size<=b)/\b≠X.env.locals/\(∀ x c,X.env.cells.lookup x=some c->c≠b)/\∀ p∈X.pn++pins,p.1≠b):Inv X pins σ H' s':=by
 obtain ⟨h',g',d',t',o'⟩:=s'
 have e:o'=s.os:=ho
 subst e
 exact I.call (g':=g') (t':=t') (d':=d') u hok hg hch
end
abbrev XK:=Value->Option Addr->Hp->Prop
abbrev St:=List (Option V)
abbrev VK:=V->Hp->Prop
abbrev TE:=St->Hp->VK->Prop
abbrev TT:=St->Hp->(Bool->Hp->Prop)->Prop
abbrev TA:=St->Hp->(List V->Hp->Prop)->Prop
structure Ends where
 nx:St->Hp->Prop
 rt:VK
 bk:St->Hp->Prop:=fun _ _=>False
 ct:St->Hp->Prop:=fun _ _=>False
abbrev TS:=Ends->St->Hp->Prop
def EP (X:Cx) (pins:List (Addr × Obj)) (σ:St) (Q:VK) (u:Value) (s':Shared):Prop:=∃ v H',Inv X pins σ H' s'/\RelV v u/\Q v H'
def TP (X:Cx) (pins:List (Addr × Obj)) (σ:St) (Q:Bool->Hp->Prop) (b:Bool) (s':Shared):Prop:=∃ H',Inv X pins σ H' s'/\Q b H'
def AP (X:Cx) (pins:List (Addr × Obj)) (σ:St) (Q:List V->Hp->Prop) (us:List Value) (s':Shared):Prop:=∃ vs H',Inv X pins σ H' s'/\Vals vs us/\Q vs H'
def SP (X:Cx) (pins:List (Addr × Obj)) (D:Ends) (f:Flow) (s':Shared):Prop :=
 match f with
 | .next=>∃ σ' H',Inv X pins σ' H' s'/\D.nx σ' H'
 | .brk=>∃ σ' H',Inv X pins σ' H' s'/\D.bk σ' H'
 | .cont=>∃ σ' H',Inv X pins σ' H' s'/\D.ct σ' H'
 | .ret u=>∃ v σ' H',Inv X pins σ' H' s'/\RelV v u/\D.rt v H'
def PE (X:Cx) (e:Expr) (t:TE):Prop :=
 ∀ (pins:List (Addr × Obj)) (s:Shared) (σ:St) (H:Hp) (Q:VK),Inv X pins σ H s->t σ H Q->wpAny (model X.prog X.w) X.A (eval e X.env) (EP X pins σ Q) X.xe s
def PT (X:Cx) (e:Expr) (t:TT):Prop :=
 ∀ (pins:List (Addr × Obj)) (s:Shared) (σ:St) (H:Hp) (Q:Bool->Hp->Prop),Inv X pins σ H s->t σ H Q->wpAny (model X.prog X.w) X.A (isTrue e X.env (eval e X.env)) (TP X pins σ Q) X.xe s
def PW (X:Cx) (e:Expr) (t:TT):Prop :=
 ∀ (whole:Sem Value) (pins:List (Addr × Obj)) (s:Shared) (σ:St) (H:Hp) (Q:Bool->Hp->Prop),Inv X pins σ H s->t σ H Q->wpAny (model X.prog X.w) X.A (isTrue e X.env whole) (TP X pins σ Q) X.xe s
theorem PW.pt {X:Cx} {e:Expr} {t:TT} (h:PW X e t):PT X e t:=h _
def PA (X:Cx) (es:List Expr) (t:TA):Prop :=
 ∀ (pos:Pos) (pins:List (Addr × Obj)) (s:Shared) (σ:St) (H:Hp) (Q:List V->Hp->Prop),Inv X pins σ H s->t σ H Q->wpAny (model X.prog X.w) X.A (spliced (backTo pos (starEach es X.env))) (AP X pins σ Q) X.xe s
def PS (X:Cx) (st:Stmt) (t:TS):Prop :=
 ∀ (pins:List (Addr × Obj)) (s:Shared) (σ:St) (H:Hp) (D:Ends),Inv X pins σ H s->t D σ H->wpAny (model X.prog X.w) X.A (exec st X.env) (SP X pins D) X.xe s
def PSs (X:Cx) (st:List Stmt) (t:TS):Prop :=
 ∀ (pins:List (Addr × Obj)) (s:Shared) (σ:St) (H:Hp) (D:Ends),Inv X pins σ H s->t D σ H->wpAny (model X.prog X.w) X.A (execs st X.env) (SP X pins D) X.xe s
theorem thn {α:Type} {t:Sem α} {Q Q':α->Shared->Prop} {M:Model} {A:Around} {E:Value->Shared->Prop} {s:Shared} (h:wpAny M A t Q E s) (hQ:∀ a s,Q a s->Q' a s):wpAny M A t Q' E s:=wpAny_mono h hQ fun _ _ x=>x
section
variable {X:Cx}
def tVar (i:Nat):TE:=fun σ H Q=>∃ v,σ[i]?=some (some v)/\Q v H
def tC (v:V):TE:=fun _ H Q=>Q v H
theorem pe_var {i:Nat} {x:Str} {pos:Pos} (hN:X.N[i]?=some x) (hv:Vis X.env.scope x) (hd:(x == ("__debug__" : Str))=false:=by decide) (hcd:(x == ("__classdict__" : Str))=false:=by decide):PE X (.Name x pos) (tVar i):=by
 intro pins s σ H Q I h
 obtain ⟨v,e,h⟩:=h
 obtain ⟨m,hn,hl⟩:=I.loc
 obtain ⟨u,r,l⟩:=hl i x v hN e hv
 have fin:EP X pins σ Q u s:=⟨v,H,I,r,h⟩
 rcases l with ⟨hk,hm⟩ | ⟨hk,c,hc,hcell⟩
 ·exact wpAny_Name (wpAny_loadName_local I.ok.kind hk hn hm fin) hd
 ·rcases hk with hk | hk
  ·exact wpAny_Name (wpAny_loadName_cell I.ok.kind hk hc hcell fin) hd
  ·exact wpAny_Name (wpAny_loadName_free I.ok.kind hk hc hcell fin hcd) hd
theorem pe_int {i j pos}:PE X (.Constant (.int i) j pos) (tC (.int i)):=fun _ _ _ H _ I h=>wpAny_Constant_int ⟨.int i,H,I.tok _,⟨_,rfl⟩,h⟩
theorem pe_bl {b j pos}:PE X (.Constant (.bool b) j pos) (tC (.bl b)):=fun _ _ _ H _ I h=>Constant_bool ⟨.bl b,H,I,rfl,h⟩
theorem pe_str {x j pos}:PE X (.Constant (.str x) j pos) (tC (.str x)):=fun _ _ _ H _ I h=>Calls.Constant_str ⟨.str x,H,I.tok _,⟨_,rfl⟩,h⟩
def Gl (X:Cx) (x:Str):Prop:=X.env.kindOf x=some .globalImplicit
theorem ld_glob {E:Value->Shared->Prop} {pins:List (Addr × Obj)} {s:Shared} {σ:St} {H:Hp} {x:Str} {u:Value} {pos:Pos} {Q:Value->Shared->Prop} (I:Inv X pins σ H s) (hg:Gl X x) (hm:X.mg x=some u) (h:Q u s)
  (hd:(x == ("__debug__" : Str))=false:=by decide):wpAny (model X.prog X.w) X.A (eval (.Name x pos) X.env) Q E s :=
 Calls.Name_function_global I.ok.kind hg (Calls.loadGlobal_global (by rw [I.ok.glob];exact I.mod.glob.keeps I.bk) hm h) hd
theorem ld_blt {E:Value->Shared->Prop} {pins:List (Addr × Obj)} {s:Shared} {σ:St} {H:Hp} {x:Str} {u:Value} {pos:Pos} {Q:Value->Shared->Prop} (I:Inv X pins σ H s) (hg:Gl X x) (hm:X.mg x=none) (hv:bootBuiltins x=some u) (h:Q u s)
  (hn:x≠"__name__" := by decide) (hd:(x == ("__debug__" : Str))=false:=by decide):wpAny (model X.prog X.w) X.A (eval (.Name x pos) X.env) Q E s:=by
 obtain ⟨mb,h1,h2⟩:=I.mod.blt
 exact Calls.Name_function_global I.ok.kind hg (Calls.loadGlobal_builtin (by rw [I.ok.glob];exact I.mod.glob.keeps I.bk) hm (by rw [I.ok.blt];exact h1.keeps I.bk) ((h2 x hn).trans hv) h) hd
theorem pe_glob {x:Str} {v:V} {u:Value} {pos:Pos} (hg:Gl X x) (hm:X.mg x=some u) (r:RelV v u) (hd:(x == ("__debug__" : Str))=false:=by decide):PE X (.Name x pos) (tC v) :=
 fun _ _ _ H _ I h=>ld_glob I hg hm ⟨v,H,I,r,h⟩ hd
theorem pe_bltn {x:Str} {v:V} {u:Value} {pos:Pos} (hg:Gl X x) (hm:X.mg x=none) (hv:bootBuiltins x=some u) (r:RelV v u) (hn:x≠"__name__" := by decide) (hd:(x == ("__debug__" : Str))=false:=by decide):PE X (.Name x pos) (tC v) :=
 fun _ _ _ H _ I h=>ld_blt I hg hm hv ⟨v,H,I,r,h⟩ hn hd
variable {a b:Expr} {ta tb:TE} {pos:Pos}
def PC (X:Cx) (op:CmpOp) (a b:Expr) (t:TE):Prop :=
 ∀ (pins:List (Addr × Obj)) (s:Shared) (σ:St) (H:Hp) (Q:VK),Inv X pins σ H s->t σ H Q ->
  wpAny (model X.prog X.w) X.A (eval a X.env) (fun v s₁=>wpAny (model X.prog X.w) X.A (eval b X.env) (fun u s₂=>wpAny (model X.prog X.w) X.A (compareOp op v u) (EP X pins σ Q) X.xe s₂) X.xe s₁) X.xe s
theorem nobehind (b:Expr) {op:CmpOp} (h:op≠.In) (h2:op≠.NotIn):behindInMarks op b=false:=by
 have e1:(op == CmpOp.In)=false:=by cases op<;>first | rfl | exact absurd rfl h
 have e2:(op == CmpOp.NotIn)=false:=by cases op<;>first | rfl | exact absurd rfl h2
 cases b<;>simp [behindInMarks,e1,e2]
def tB (t:TE):TT:=fun σ H Q=>t σ H fun x H1=>∃ c,x=.bl c/\Q c H1
theorem pt_cmp {op:CmpOp} {t:TE} (h:PC X op a b t) (h1:behindInMarks op b=false:=by first | exact nobehind _ (by decide) (by decide) | rfl):PT X (.Compare a [op] [b] pos) (tB t):=by
 intro pins s σ H Q I hw
 refine wpAny_isTrue_Compare1 (thn (h pins s σ H _ I hw) fun v s1 h1=>thn h1 fun u s2 h2=>thn h2 fun c s3 ⟨x,H1,I1,r1,q1⟩=>?_) h1
 obtain ⟨d,rfl,q⟩:=q1
 cases r1
 exact wpAny_truthy_bool ⟨H1,I1,q⟩
theorem pt_val {e:Expr} {t:TE} (h:PE X e t) (he:∀ whole,isTrue e X.env whole=(do let v <- whole;standAt e.pos;holding [v] (truthy v)):=by intro _;rfl):PT X e (tB t):=by
 intro pins s σ H Q I hw
 refine isTrue_plain (thn (h pins s σ H _ I hw) fun v s1 ⟨x,H1,I1,r1,q1⟩=>?_) (he _)
 obtain ⟨d,rfl,q⟩:=q1
 cases r1
 exact wpAny_truthy_bool ⟨H1,I1,q⟩
variable {tA tB':TT} {rest:List Expr}
def tAnd (t u:TT):TT:=fun σ H Q=>t σ H fun c H1=>if c=true then u σ H1 Q else Q false H1
def tOr (t u:TT):TT:=fun σ H Q=>t σ H fun c H1=>if c=true then Q true H1 else u σ H1 Q
def tNot (t:TT):TT:=fun σ H Q=>t σ H fun c H1=>Q (!c) H1
theorem pw_and1 (ha:PT X a tA):PW X (.BoolOp .And [a] pos) tA:=by
 intro wh pins s σ H Q I h
 refine isTrue_and (thn (ha pins s σ H Q I h) fun c s1 e=>?_)
 cases c with
 | true=>exact isTrue_and_nil e
 | false=>exact e
theorem pw_or1 (ha:PT X a tA):PW X (.BoolOp .Or [a] pos) tA:=by
 intro wh pins s σ H Q I h
 refine isTrue_or (thn (ha pins s σ H Q I h) fun c s1 e=>?_)
 cases c with
 | false=>exact isTrue_or_nil e
 | true=>exact e
theorem pw_and (ha:PT X a tA) (hb:PW X (.BoolOp .And (b::rest) pos) tB'):PW X (.BoolOp .And (a::b::rest) pos) (tAnd tA tB'):=by
 intro wh pins s σ H Q I h
 refine isTrue_and (thn (ha pins s σ H _ I h) fun c s1 ⟨H1,I1,q1⟩=>?_)
 cases c with
 | true=>exact hb wh pins s1 σ H1 Q I1 q1
 | false=>exact ⟨H1,I1,q1⟩
theorem pw_or (ha:PT X a tA) (hb:PW X (.BoolOp .Or (b::rest) pos) tB'):PW X (.BoolOp .Or (a::b::rest) pos) (tOr tA tB'):=by
 intro wh pins s σ H Q I h
 refine isTrue_or (thn (ha pins s σ H _ I h) fun c s1 ⟨H1,I1,q1⟩=>?_)
 cases c with
 | true=>exact ⟨H1,I1,q1⟩
 | false=>exact hb wh pins s1 σ H1 Q I1 q1
theorem pt_not (ha:PT X a tA):PT X (.UnaryOp .Not a pos) (tNot tA):=by
 intro pins s σ H Q I h
 exact isTrue_not (ha pins s σ H (fun c H1=>Q (!c) H1) I h)
def tAndV (ta tb:TE):TE:=fun σ H Q=>ta σ H fun x H1=>∃ c,x=.bl c/\if c=true then tb σ H1 Q else Q (.bl false) H1
theorem pe_one {op} {t:TE} (h:PE X a t):PE X (.BoolOp op [a] pos) t:=fun pins s σ H Q I hw=>BoolOp_one (h pins s σ H Q I hw)
theorem pe_and (ha:PE X a ta) (hb:PE X (.BoolOp .And (b::rest) pos) tb):PE X (.BoolOp .And (a::b::rest) pos) (tAndV ta tb):=by
 intro pins s σ H Q I h
 refine BoolOp_and (thn (ha pins s σ H _ I h) fun v s1 ⟨x,H1,I1,r1,q1⟩=>?_)
 obtain ⟨c,rfl,q1⟩:=q1
 cases r1
 refine wpAny_truthy_bool ?_
 cases c with
 | true=>exact hb pins s1 σ H1 Q I1 q1
 | false=>exact ⟨.bl false,H1,I1,rfl,q1⟩
def tIf (t:TT) (ta tb:TE):TE:=fun σ H Q=>t σ H fun c H1=>if c=true then ta σ H1 Q else tb σ H1 Q
theorem pe_ifExp {c:Expr} (hc:PT X c tA) (ha:PE X a ta) (hb:PE X b tb):PE X (.IfExp c a b pos) (tIf tA ta tb):=by
 intro pins s σ H Q I h
 refine wpAny_IfExp (thn (hc pins s σ H _ I h) fun d s1 ⟨H1,I1,q1⟩=>?_)
 cases d with
 | true=>exact ha pins s1 σ H1 Q I1 q1
 | false=>exact hb pins s1 σ H1 Q I1 q1
end
def SqL (K:PySem.W.Frag) (H:Hp) (a:Addr) (xs:List V):Prop :=
 Rd H a (.lst xs) \/
  ∃ (o:Obj) (its:Array Value) (n:Nat),K.lookup a=some o/\o.cls=.type "list" /\ o.dict=none/\o.data=.seq its n/\its.size<=sizeLine/\Vals xs its.toList
def SqT (K:PySem.W.Frag) (H:Hp) (a:Addr) (xs:List V):Prop :=
 Rd H a (.tup xs) \/
  ∃ (o:Obj) (its:Array Value) (n:Nat),K.lookup a=some o/\o.cls=.type "tuple" /\ o.data=.seq its n/\its.size<=sizeLine/\Vals xs its.toList
def absV:Value->Option V
 | .none=>some .non
 | .bool b=>some (.bl b)
 | .int i _=>some (.int i)
 | .str x _=>some (.str x)
 | .bytes b _=>some (.byt b)
 | .float b _=>some (.flt b)
 | .ref a=>some (.ref a)
 | .type n=>some (.ty n)
 | _=>none
theorem RelV.abs {x:V} {u:Value} (r:RelV x u):absV u=some x:=by
 cases x with
 | non=>cases r;rfl
 | bl _=>cases r;rfl
 | int _=>obtain ⟨t,rfl⟩:=r;rfl
 | str _=>obtain ⟨t,rfl⟩:=r;rfl
 | byt _=>obtain ⟨t,rfl⟩:=r;rfl
 | flt _=>obtain ⟨t,rfl⟩:=r;rfl
 | ref _=>cases r;rfl
 | ty _=>cases r;rfl
theorem RelV.inj {x y:V} {u:Value} (r:RelV x u) (q:RelV y u):x=y:=Option.some.inj (r.abs.symm.trans q.abs)
theorem Vals.inj:∀ {xs ys:List V} {us:List Value},Vals xs us->Vals ys us->xs=ys
 | _,_,_,.nil,.nil=>rfl
 | _,_,_,.cons r t,.cons r' t'=>by rw [r.inj r',Vals.inj t t']
section
variable {X:Cx} {pins:List (Addr × Obj)} {σ:St} {H:Hp} {s:Shared} {a:Addr} {xs ys:List V}
theorem SqL.of {K:PySem.W.Frag} (h:H a=some (.lst xs)):SqL K H a xs:=.inl (.inl h)
theorem SqT.of {K:PySem.W.Frag} (h:H a=some (.tup xs)):SqT K H a xs:=.inl (.inl h)
theorem Inv.list (I:Inv X pins σ H s) (h:SqL X.K H a xs):∃ its:List Value,Vals xs its/\PlainL s.heap a its.toArray/\xs.length<=sizeLine:=by
 rcases h with h | ⟨o,its,n,hk,hc,hd,hs,hz,r⟩
 ·obtain ⟨z,its,n,r,e⟩:=h.ok I.hok
  exact ⟨its,r,⟨_,n,e,rfl,rfl,rfl⟩,z⟩
 ·refine ⟨its.toList,r,⟨o,n,I.kIn a o hk,hc,hd,by simpa using hs⟩,?_⟩
  have e:=r.length
  simp only [Array.length_toList] at e
  omega
theorem Inv.tuple (I:Inv X pins σ H s) (h:SqT X.K H a xs):∃ its:List Value,Vals xs its/\IsTup s.heap a its.toArray/\xs.length<=sizeLine:=by
 rcases h with h | ⟨o,its,n,hk,hc,hs,hz,r⟩
 ·obtain ⟨z,its,r,p⟩:=h.ok I.hok
  exact ⟨its,r,p,z⟩
 ·refine ⟨its.toList,r,⟨o,I.kIn a o hk,hc,n,by simpa using hs⟩,?_⟩
  have e:=r.length
  simp only [Array.length_toList] at e
  omega
theorem Inv.list_inj (I:Inv X pins σ H s) (h:SqL X.K H a xs) (h':SqL X.K H a ys):xs=ys:=by
 obtain ⟨its,r,⟨o,n,e,_,_,d⟩,_⟩:=I.list h
 obtain ⟨its',r',⟨o',n',e',_,_,d'⟩,_⟩:=I.list h'
 rw [e] at e';cases e'
 rw [d] at d'
 injection d' with d1 _
 have:its=its':=by simpa using congrArg Array.toList d1
 subst this
 exact r.inj r'
end
abbrev Cx.wish (X:Cx) (E:Value->Shared->Prop):Cx:={ X with xe:=E }
abbrev Cx.nox (X:Cx):Cx:=X.wish fun _ _=>False
theorem Cx.Ok.wish {X:Cx} (ok:X.Ok) (E:Value->Shared->Prop):(X.wish E).Ok :=
 ⟨ok.mod,ok.kind,ok.glob,ok.blt,ok.above,ok.inj,ok.has,ok.cab,ok.hd,ok.frames,ok.stk,ok.exf,ok.bs,ok.bsz,ok.noex,ok.exfs,ok.funs,ok.frf⟩
theorem Cx.Ok.unwish {X:Cx} {E:Value->Shared->Prop} (ok:(X.wish E).Ok):X.Ok :=
 ⟨ok.mod,ok.kind,ok.glob,ok.blt,ok.above,ok.inj,ok.has,ok.cab,ok.hd,ok.frames,ok.stk,ok.exf,ok.bs,ok.bsz,ok.noex,ok.exfs,ok.funs,ok.frf⟩
section
variable {X:Cx} {pins:List (Addr × Obj)} {σ:St} {H:Hp} {s:Shared} {E:Value->Shared->Prop}
theorem Inv.wish (I:Inv X pins σ H s) (E:Value->Shared->Prop):Inv (X.wish E) pins σ H s:=⟨I.ok.wish E,I.os,I.bare,I.base,I.loc,I.cell,I.free,I.freeC,I.pin,I.hok,I.len⟩
theorem Inv.unwish (I:Inv (X.wish E) pins σ H s):Inv X pins σ H s:=⟨I.ok.unwish,I.os,I.bare,I.base,I.loc,I.cell,I.free,I.freeC,I.pin,I.hok,I.len⟩
theorem SP.unwish {D:Ends} {f:Flow} {s':Shared} (h:SP (X.wish E) pins D f s'):SP X pins D f s':=by
 cases f with
 | next=>obtain ⟨σ',H',I,q⟩:=h;exact ⟨σ',H',I.unwish,q⟩
 | brk=>obtain ⟨σ',H',I,q⟩:=h;exact ⟨σ',H',I.unwish,q⟩
 | cont=>obtain ⟨σ',H',I,q⟩:=h;exact ⟨σ',H',I.unwish,q⟩
 | ret u=>obtain ⟨v,σ',H',I,r,q⟩:=h;exact ⟨v,σ',H',I.unwish,r,q⟩
theorem PSs.nox {st:List Stmt} {t:TS} (h:PSs X.nox st t):PSs X st t:=fun pins s σ H D I hw =>
 wpAny_mono (h pins s σ H D (I.wish _) hw) (fun _ _ q=>q.unwish) fun _ _ z=>False.elim z
end
section
variable {X:Cx} {st:Stmt} {rest:List Stmt} {t u:TS} {e:Expr} {te:TE} {pos:Pos}
def tNext:TS:=fun D σ H=>D.nx σ H
def tSeq (t u:TS):TS:=fun D σ H=>t { D with nx:=u D } σ H
theorem pss_nil:PSs X [] tNext:=fun _ _ σ H _ I h=>wpAny_execs_nil ⟨σ,H,I,h⟩
theorem pss_cons (h1:PS X st t) (h2:PSs X rest u):PSs X (st::rest) (tSeq t u):=by
 intro pins s σ H D I h
 refine wpAny_execs_cons (thn (h1 pins s σ H { D with nx:=u D } I h) fun f s1 q=>?_)
 cases f with
 | next =>
  obtain ⟨σ',H',I',q⟩:=q
  exact h2 pins s1 σ' H' D I' q
 | ret v=>exact q
 | brk=>exact q
 | cont=>exact q
theorem pss_one (h1:PS X st t):PSs X [st] t:=by
 intro pins s σ H D I h
 refine wpAny_execs_cons (thn (h1 pins s σ H D I h) fun f s1 q=>?_)
 cases f with
 | next=>exact wpAny_execs_nil q
 | ret v=>exact q
 | brk=>exact q
 | cont=>exact q
theorem Inv.quiet {pins:List (Addr × Obj)} {σ:St} {H:Hp} {s:Shared} (I:Inv X pins σ H s):interactive X.env=false:=by simp [interactive,I.ok.kind]
def tDrop (te:TE):TS:=fun D σ H=>te σ H fun _ H1=>D.nx σ H1
theorem ps_expr (he:PE X e te) (hs:swapsWith e none pos.line X.env=pure false:=by rfl):PS X (.Expr e pos) (tDrop te):=by
 intro pins s σ H D I h
 exact wpAny_Expr_any (thn (he pins s σ H _ I h) fun v s1 ⟨x,H1,I1,r1,q1⟩=>⟨σ,H1,I1,q1⟩) I.quiet hs
def tRet (te:TE):TS:=fun D σ H=>te σ H D.rt
theorem ps_ret (he:PE X e te):PS X (.Return (some e) pos) (tRet te):=by
 intro pins s σ H D I h
 exact wpAny_Return_some (thn (he pins s σ H _ I h) fun v s1 ⟨x,H1,I1,r1,q1⟩=>⟨x,σ,H1,I1,r1,q1⟩)
def tIfS (c:TT) (t u:TS):TS:=fun D σ H=>c σ H fun b H1=>if b=true then t D σ H1 else u D σ H1
theorem ps_if {c:Expr} {a b:List Stmt} {tc:TT} (hc:PT X c tc) (ha:PSs X a t) (hb:PSs X b u):PS X (.If c a b pos) (tIfS tc t u):=by
 intro pins s σ H D I h
 refine wpAny_If (thn (hc pins s σ H _ I h) fun d s1 ⟨H1,I1,q1⟩=>?_)
 cases d with
 | true=>exact ha pins s1 σ H1 D I1 q1
 | false=>exact hb pins s1 σ H1 D I1 q1
def tNever:TS:=fun _ _ _=>False
theorem ps_never:PS X st tNever:=fun _ _ _ _ _ _ h=>h.elim
end
abbrev TG:=V->St->Hp->(St->Hp->Prop)->Prop
abbrev TGs:=List V->St->Hp->(St->Hp->Prop)->Prop
def PG (X:Cx) (target:Expr) (t:TG):Prop :=
 ∀ (pins:List (Addr × Obj)) (s:Shared) (σ:St) (H:Hp) (v:V) (u:Value) (Q:St->Hp->Prop),Inv X pins σ H s->RelV v u->t v σ H Q ->
  wpAny (model X.prog X.w) X.A (assign target X.env u) (fun _ s'=>∃ σ' H',Inv X pins σ' H' s'/\Q σ' H') X.xe s
def PGs (X:Cx) (ts:List Expr) (t:TGs):Prop :=
 ∀ (pins:List (Addr × Obj)) (s:Shared) (σ:St) (H:Hp) (vs:List V) (us:List Value) (Q:St->Hp->Prop),Inv X pins σ H s->Vals vs us->t vs σ H Q ->
  wpAny (model X.prog X.w) X.A (assignInOrder ((assignEach ts X.env).map (·.2)) us) (fun _ s'=>∃ σ' H',Inv X pins σ' H' s'/\Q σ' H') X.xe s
abbrev TSet:=V->V->V->Hp->(Hp->Prop)->Prop
def PSet (X:Cx) (t:TSet):Prop :=
 ∀ (pins:List (Addr × Obj)) (s:Shared) (σ:St) (H:Hp) (o i v:V) (ov iv u:Value) (Q:Hp->Prop),Inv X pins σ H s->RelV o ov->RelV i iv->RelV v u->t o i v H Q ->
  wpAny (model X.prog X.w) X.A (setItem ov iv u) (fun _ s'=>∃ H',Inv X pins σ H' s'/\Q H') X.xe s
section
variable {X:Cx} {pos:Pos}
def gName (i:Nat):TG:=fun v σ H Q=>Q (σ.set i (some v)) H
theorem pg_name {i:Nat} {x:Str} (hN:X.N.Nodup) (hi:X.N[i]?=some x) (hx:Loc X.env.scope x) (hf:X.fn x=true\/X.env.scope.names.lookup x=some .local:=by first | exact .inl rfl | exact .inr rfl | assumption):PG X (.Name x pos) (gName i):=by
 intro pins s σ H v u Q I r h
 exact wpAny_assign_Name (store_ok I hN hi hx r (fun s' I'=>⟨_,H,I',h⟩) hf)
def gNil:TGs:=fun vs σ H Q=>vs=[]/\Q σ H
def gCons (t:TG) (u:TGs):TGs:=fun vs σ H Q=>∃ v r,vs=v::r/\t v σ H fun σ' H'=>u r σ' H' Q
theorem pgs_nil:PGs X [] gNil:=by
 intro pins s σ H vs us Q I r h
 obtain ⟨e,h⟩:=h
 subst e
 cases r
 exact assignInOrder_nil ⟨σ,H,I,h⟩
theorem pgs_cons {e:Expr} {es:List Expr} {t:TG} {u:TGs} (h1:PG X e t) (h2:PGs X es u)
  (hs:(assignEach (e::es) X.env).map (·.2)=assign e X.env::(assignEach es X.env).map (·.2):=by rfl):PGs X (e::es) (gCons t u):=by
 intro pins s σ H vs us Q I r h
 obtain ⟨v,vr,e1,h⟩:=h
 subst e1
 cases r with
 | cons r rr =>
  rw [hs]
  refine assignInOrder_cons (thn (h1 pins s σ H _ _ _ I r h) fun _ s1 ⟨σ1,H1,I1,q1⟩=>?_)
  exact h2 pins s1 σ1 H1 _ _ Q I1 rr q1
def gTup (K:PySem.W.Frag) (n:Nat) (t:TGs):TG:=fun v σ H Q=>∃ a xs,v=.ref a/\SqT K H a xs/\xs.length=n/\t xs σ H Q
theorem pg_tup {es:List Expr} {k:Nat} {t:TGs} {n:Nat} (hc:X.calm=true) (h:PGs X es t)
  (hn:(assignEach es X.env).length=n:=by rfl) (hst:(assignEach es X.env).findIdx? (·.1)=none:=by rfl):PG X (.Tuple es k pos) (gTup X.K n t):=by
 intro pins s σ H v u Q I r hw
 obtain ⟨a,xs,e1,hq,hl,hw⟩:=hw
 subst e1
 cases r
 obtain ⟨its,rv,ht,hz⟩:=I.tuple hq
 refine assign_Tuple_tuple (I.ok.hd hc) ht (by simp [hn,<- hl,rv.length]) hst fun h' hx=>?_
 have I1:Inv X pins σ H { s with heap:=h' }:=I.kept (t':=s.toks) fun b o e=>hx b o (Nat.ne_of_lt (Heap.lt_size e)) e
 exact h pins _ σ H xs _ Q I1 (by simpa using rv) hw
def gSub (to ti:TE) (t:TSet):TG:=fun v σ H Q=>to σ H fun o H1=>ti σ H1 fun i H2=>t o i v H2 fun H3=>Q σ H3
theorem pg_sub {o i:Expr} {to ti:TE} {t:TSet} (ho:PE X o to) (hi:PE X i ti) (hs:PSet X t)
  (ha:∀ v,assign (.Subscript o i pos) X.env v=(do
   let ov <- holding [v] (eval o X.env)
   let iv <- holding [v,ov] (eval i X.env)
   standAt pos
   holding [v,ov,iv] (setItem ov iv v)
   release [v,ov,iv] []):=by intro _;rfl):PG X (.Subscript o i pos) (gSub to ti t):=by
 intro pins s σ H v u Q I r h
 rw [ha]
 refine wpAny_bind (wpAny_holding (thn (ho pins s σ H _ I h) fun ov s1 ⟨x,H1,I1,r1,q1⟩=>?_))
 refine wpAny_bind (wpAny_holding (thn (hi pins s1 σ H1 _ I1 q1) fun iv s2 ⟨y,H2,I2,r2,q2⟩=>?_))
 refine wpAny_bind (wpAny_standAt (wpAny_bind (wpAny_holding (thn (hs pins s2 σ H2 x y v ov iv u _ I2 r1 r2 r q2) fun _ s3 ⟨H3,I3,q3⟩=>?_))))
 exact wpAny_release ⟨σ,H3,I3,q3⟩
def tAsg (te:TE) (g:TG):TS:=fun D σ H=>te σ H fun x H1=>g x σ H1 D.nx
theorem ps_asg {tg e:Expr} {te:TE} {g:TG} (he:PE X e te) (hg:PG X tg g) (hs:swapsWithSole [tg] e pos.line X.env=pure false:=by rfl) (hw:swappedStores [tg] e X.env=pure none:=by rfl)
  (h1:(assignEach [tg] X.env).map (·.2)=[assign tg X.env]:=by rfl):PS X (.Assign [tg] e pos) (tAsg te g):=by
 intro pins s σ H D I h
 refine wpAny_Assign_stores (thn (he pins s σ H _ I h) fun v s1 ⟨x,H1,I1,r1,q1⟩=>?_) hs hw
 rw [h1]
 exact thn (hg pins s1 σ H1 x v _ I1 r1 q1) fun _ s2 q=>q
theorem ps_set {i:Nat} {x:Str} {e:Expr} {te:TE} {pos':Pos} (hN:X.N.Nodup) (hi:X.N[i]?=some x) (hx:Loc X.env.scope x) (he:PE X e te) (hs:swapsWith e (some (.Name x pos')) pos.line X.env=pure false:=by rfl) (hf:X.fn x=true\/X.env.scope.names.lookup x=some .local:=by first | exact .inl rfl | exact .inr rfl | assumption) :
  PS X (.Assign [.Name x pos'] e pos) (tAsg te (gName i)):=by
 intro pins s σ H D I h
 refine wpAny_Assign_Name (thn (he pins s σ H _ I h) fun v s1 ⟨y,H1,I1,r1,q1⟩=>?_) hs
 exact store_ok I1 hN hi hx r1 (fun s2 I2=>⟨_,H1,I2,q1⟩) hf
def tPar (i j:Nat) (ta:TA):TS:=fun D σ H=>ta σ H fun vs H1=>∃ v w,vs=[v,w]/\D.nx ((σ.set i (some v)).set j (some w)) H1
theorem ps_par {i j:Nat} {x y:Str} {a b:Expr} {ta:TA} {px py pt:Pos} {kt k2 pt2} (hc:X.calm=true) (hN:X.N.Nodup) (hi:X.N[i]?=some x) (hj:X.N[j]?=some y) (hij:i≠j)
  (hx:X.env.scope.names.lookup x=some .local) (hy:X.env.scope.names.lookup y=some .local) (ha:PA X [a,b] ta)
  (hw:swappedStores [.Tuple [.Name x px,.Name y py] kt pt] (.Tuple [a,b] k2 pt2) X.env=pure (some [x,y]))
  (hs:swapsWithSole [.Tuple [.Name x px,.Name y py] kt pt] (.Tuple [a,b] k2 pt2) pos.line X.env=pure false:=by rfl) :
  PS X (.Assign [.Tuple [.Name x px,.Name y py] kt pt] (.Tuple [a,b] k2 pt2) pos) (tPar i j ta):=by
 intro pins s σ H D I h
 rw [exec_Assign_arm]
 refine wpAny_bind (wpAny_standAt ?_)
 rw [hs]
 refine wpAny_bind (wpAny_pure ?_)
 rw [if_neg (by decide)]
 refine wpAny_bind (Tuple_ (thn (ha _ pins s σ H _ I h) fun us s1 ⟨vs,H1,I1,r1,q1⟩=>?_))
 obtain ⟨v,w,e1,q1⟩:=q1
 subst e1
 obtain ⟨u1,u2,rfl,rv,rw'⟩:∃ u1 u2,us=[u1,u2]/\RelV v u1/\RelV w u2:=by
  cases r1 with
  | cons p q =>
   cases q with
   | cons p' q' =>
    cases q'
    exact ⟨_,_,rfl,p,p'⟩
 refine wpAny_newObj_type ?_ (by show 2<=sizeLine;decide)
 have I2:Inv X pins σ H1 { s1 with heap:=s1.heap.push { cls:=.type "tuple",data:=.seq [u1,u2].toArray } }:=I1.kept (t':=s1.toks) fun b o e=>Heap.get?_push_of_some _ e
 rw [hw]
 refine wpAny_bind (wpAny_pure ?_)
 show wpAny (model X.prog X.w) X.A (do rule "assign.swapped-stores";let items <- unpackItems (.ref s1.heap.objs.size) 2 none;assignInOrder [fun v=>bindName X.env y v,fun v=>bindName X.env x v] items.reverse;pure Flow.next) _ _ _
 refine wpAny_bind (wpAny_rule (wpAny_bind (unpackItems_tuple (items:=#[u1,u2]) (I.ok.hd hc) (IsTup.new s1.heap _) fun h' hx'=>?_)))
 have I3:=I2.kept (h':=h') (t':=s1.toks) fun b o e=>hx' b o (Nat.ne_of_lt (Heap.lt_size e)) e
 show wpAny _ _ (assignInOrder [fun v=>bindName X.env y v,fun v=>bindName X.env x v] [u2,u1] >>= fun _=>pure Flow.next) _ _ _
 refine wpAny_bind (assignInOrder_cons (wpAny_bindName (store_ok I3 hN hj (.inl hy) rw' (fun s2 I4=>?_) (.inr hy))))
 refine assignInOrder_cons (wpAny_bindName (store_ok I4 hN hi (.inl hx) rv (fun s3 I5=>assignInOrder_nil (wpAny_pure ?_)) (.inr hx)))
 rw [List.set_comm _ _ (Ne.symm hij)] at I5
 exact ⟨_,H1,I5,q1⟩
def tWhile (c:TT) (tb:TS):TS:=fun D σ H=>∃ W:Nat->St->Hp->Prop,(∃ m,W m σ H)/\∀ m σ H,W m σ H ->
 c σ H fun b H1=>if b=true then ∃ N:St->Hp->Prop,(∀ σ' H',N σ' H'->∃ m',m' < m/\W m' σ' H')/\tb { D with nx:=N,ct:=N,bk:=D.nx } σ H1 else D.nx σ H1
theorem ps_while {c:Expr} {body:List Stmt} {tc:TT} {tb:TS} (hp:PassesOwn (model X.prog X.w) X.A X.env X.xe) (hc:PT X c tc) (hb:PSs X body tb):PS X (.While c body [] pos) (tWhile tc tb):=by
 intro pins s σ H D I h
 obtain ⟨W,⟨m0,w0⟩,turn⟩:=h
 refine wpAny_While (codeAny_whileLoop (fun n s'=>∃ σ' H',Inv X pins σ' H' s'/\W n σ' H') ?_ m0 ⟨σ,H,I,w0⟩)
 rintro n s1 ⟨σ1,H1,I1,w1⟩
 refine wpAny_passesOwn hp (thn (hc pins s1 σ1 H1 _ I1 (turn n σ1 H1 w1)) fun b s2 ⟨H2,I2,q2⟩=>?_)
 cases b with
 | true =>
  obtain ⟨N,hN,q2⟩:=q2
  rw [if_pos rfl]
  refine wpAny_passesOwn hp (thn (hb pins s2 σ1 H2 _ I2 q2) fun f s3 q3=>?_)
  cases f with
  | next =>
   obtain ⟨σ3,H3,I3,n3⟩:=q3
   obtain ⟨m',hm,w3⟩:=hN σ3 H3 n3
   exact ⟨m',hm,σ3,H3,I3,w3⟩
  | cont =>
   obtain ⟨σ3,H3,I3,n3⟩:=q3
   obtain ⟨m',hm,w3⟩:=hN σ3 H3 n3
   exact ⟨m',hm,σ3,H3,I3,w3⟩
  | brk=>exact q3
  | ret v=>exact q3
 | false =>
  rw [if_neg Bool.false_ne_true]
  exact wpAny_execs_nil ⟨σ1,H2,I2,q2⟩
end
structure It where
 go:Nat->Hp->Prop
 yld:Nat->Hp->V->Hp->Prop
 stop:Nat->Hp->Prop
def FpOk (X:Cx) (pins:List (Addr × Obj)) (H:Hp) (b:Addr):Prop :=
 H b=none/\b≠X.env.locals/\b ∉ X.fs/\(b∈X.ex\/X.s₀.heap.objs.size<=b)/\(∀ x c,X.env.cells.lookup x=some c->c≠b)/\∀ p∈X.pn++pins,p.1≠b
theorem Inv.fpOk {X:Cx} {pins:List (Addr × Obj)} {σ:St} {H H':Hp} {s:Shared} {b:Addr} (I:Inv X pins σ H s) (hb:s.heap.objs.size<=b) (hn:H' b=none):FpOk X pins H' b:=by
 refine ⟨hn,Nat.ne_of_gt (Nat.lt_of_lt_of_le I.lt hb),I.nofs hb,.inr (Nat.le_trans I.sz hb),fun x c e z=>?_,fun p hp z=>?_⟩
 ·obtain ⟨v,q⟩:=I.cell x c e
  exact absurd (Nat.lt_of_lt_of_le q.lt (by rw [z];exact hb)) (Nat.lt_irrefl _)
 ·exact absurd (Nat.lt_of_lt_of_le (Heap.lt_size (I.pin p hp).1) (by rw [z];exact hb)) (Nat.lt_irrefl _)
structure Turn (P:Program) (w:World) (K:PySem.W.Frag) (tg:Expr) (J:It) (fp:List Addr) (it:Addr) (tn:Nat->Heap->Prop):Prop where
 mem:it∈fp
 obj:∀ i h,tn i h->∀ b∈fp,∃ o,h.get? b=some o/\∀ v,o.data≠.cell v
 keep:∀ i h h',tn i h->(∀ b∈fp,∀ o,h.get? b=some o->h'.get? b=some o)->tn i h'
 item:∀ (X:Cx),X.prog=P->X.w=w->X.K=K->X.calm=true->∀ (i:Nat) (pins:List (Addr × Obj)) (s:Shared) (σ:St) (H:Hp) (E:Value->Shared->Prop),Inv X pins σ H s->(∀ b∈fp,FpOk X pins H b)->tn i s.heap->J.go i H ->
  wpAny (model P w) X.A (pyNext (.ref it)) (fun r s1=>∃ u,r=some u /\
   wpAny (model P w) X.A (letOwnedTupleGo tg (.ref it) u) (fun _ s2=>∃ x H',Inv X pins σ H' s2/\RelV x u/\J.yld i H x H'/\tn (i+1) s2.heap/\∀ b∈fp,H' b=none) E s1) E s
 done:∀ (X:Cx),X.prog=P->X.w=w->X.K=K->X.calm=true->∀ (i:Nat) (pins:List (Addr × Obj)) (s:Shared) (σ:St) (H:Hp) (E:Value->Shared->Prop),Inv X pins σ H s->(∀ b∈fp,FpOk X pins H b)->tn i s.heap->J.stop i H ->
  wpAny (model P w) X.A (pyNext (.ref it)) (fun r s1=>r=none/\Inv X pins σ H s1) E s
 self:∀ (A:Around) (i:Nat) (s:Shared) (Q:Value->Shared->Prop) (E:Value->Shared->Prop),tn i s.heap->Q (.ref it) s->wpAny (model P w) A (pyIter (.ref it)) Q E s
abbrev TI:=St->Hp->(It->Hp->Prop)->Prop
def PIE (X:Cx) (pins:List (Addr × Obj)) (σ:St) (tg:Expr) (R:It->Hp->Prop) (itv:Value) (s2:Shared):Prop :=
 ∃ (it:Addr) (fp:List Addr) (tn:Nat->Heap->Prop) (J:It) (H':Hp),itv=.ref it/\Inv X pins σ H' s2/\Turn X.prog X.w X.K tg J fp it tn/\tn 0 s2.heap/\(∀ b∈fp,FpOk X pins H' b)/\R J H'
def PI (X:Cx) (tg iter:Expr) (wi:TI):Prop :=
 ∀ (pins:List (Addr × Obj)) (s:Shared) (σ:St) (H:Hp) (R:It->Hp->Prop),Inv X pins σ H s->wi σ H R ->
  wpAny (model X.prog X.w) X.A (eval iter X.env) (fun v s1=>wpAny (model X.prog X.w) X.A (pyIter v) (PIE X pins σ tg R) X.xe s1) X.xe s
theorem go_of {M : Model} {A : Around} {E : Value → Shared → Prop} {s : Shared} {tg : Expr} {it : Addr} {u : Value} {o : Obj} {n : String} {vs : Array Value} {Q : Unit → Shared → Prop} (ho : s.heap.get? it = some o) (hc : o.cls = .type n) (hd : o.data = .fields vs)
    (hn : ["enumerate", "zip", "dict_itemiterator", "dict_reverseitemiterator", "odict_iterator", "itertools.zip_longest", "itertools.pairwise"].contains n = false) (hQ : Q () s) : wpAny M A (letOwnedTupleGo tg (.ref it) u) Q E s := by
  unfold letOwnedTupleGo
  cases tg <;> first
    | exact wpAny_pure hQ
    | (cases u <;> first
        | exact wpAny_pure hQ
        | (refine wpAny_bind (wpAny_load ho ?_)
           rw [hc, hd]
           show wpAny M A (if (["enumerate", "zip", "dict_itemiterator", "dict_reverseitemiterator", "odict_iterator", "itertools.zip_longest", "itertools.pairwise"].contains n && vs[0]? == some (rawInt _)) = true then _ else _) Q E s
           rw [if_neg (by intro h; rw [hn, Bool.false_and] at h; cases h)]
           exact wpAny_pure hQ))
def Itl (K:PySem.W.Frag) (a:Addr):It :=
 ⟨fun i H=>∃ xs x,SqL K H a xs/\xs[i]?=some x,fun i H x H'=>H'=H/\∀ xs,SqL K H a xs->xs[i]?=some x,fun i H=>∃ xs,SqL K H a xs/\xs.length<=i⟩
def Itr (lo:Int) (n:Nat):It:=⟨fun i _=>i < n,fun i H x H'=>H'=H/\x=.int (lo+i),fun i _=>n<=i⟩
theorem turn_list {P:Program} {w:World} {K:PySem.W.Frag} {tg:Expr} (a it:Addr):Turn P w K tg (Itl K a) [it] it (fun i h=>h.IsListIter it a i) where
 mem:=by simp
 obj:=fun i h st b hb=>by
  have e:b=it:=by simpa using hb
  subst e
  obtain ⟨o,e,c,d⟩:=st
  exact ⟨o,e,fun v z=>by rw [d] at z;cases z⟩
 keep:=fun i h h' st k=>st.at fun o e=>k it (by simp) o e
 item:=by
  intro X hP hw hK hc i pins s σ H E I hf st hg
  subst hP hw hK
  obtain ⟨xs,x,hq,hx⟩:=hg
  obtain ⟨its,rv,p,hz⟩:=I.list hq
  obtain ⟨u,hu,ru⟩:=rv.get hx
  obtain ⟨f0,f1,f2,f3,f4,f5⟩:=hf it (by simp)
  refine wpAny_pyNext_list_item st p.isList (x:=u) (by simpa using hu) fun h' st' sb=>?_
  have I1:Inv X pins σ H { s with heap:=h' }:=I.turned (t':=s.toks) (fun b o hb e=>(sb.2 b hb).trans e) f0 f1 f3 f4 f5
  obtain ⟨o,e,c,d⟩:=id st'
  exact ⟨u,rfl,go_of (s:={ s with heap:=h' }) e c d (by decide) ⟨x,H,I1,ru,⟨rfl,fun ys hy=>by rw [I.list_inj hy hq];exact hx⟩,st',fun b hb=>(hf b hb).1⟩⟩
 done:=by
  intro X hP hw hK hc i pins s σ H E I hf st hg
  subst hP hw hK
  obtain ⟨xs,hq,hx⟩:=hg
  obtain ⟨its,rv,p,hz⟩:=I.list hq
  obtain ⟨f0,f1,f2,f3,f4,f5⟩:=hf it (by simp)
  have hl:=rv.length
  exact wpAny_pyNext_list_end (I.ok.hd hc) st p.isList (by simp;omega) fun h' eb=>⟨rfl,I.turned (t':=s.toks) (fun b o hb e=>eb b o hb e) f0 f1 f3 f4 f5⟩
 self:=fun _ _ _ _ _ st h=>wpAny_pyIter_listiter st h
theorem turn_range {P:Program} {w:World} {K:PySem.W.Frag} {tg:Expr} (it:Addr) (lo:Int) (n:Nat):Turn P w K tg (Itr lo n) [it] it (fun i h=>IsRangeIter h it (lo+(i:Nat) * 1) ((n:Int) - (i:Nat)) 1) where
 mem:=by simp
 obj:=fun i h st b hb=>by
  have e:b=it:=by simpa using hb
  subst e
  exact ⟨_,st,fun v z=>by
   have z':Data.fields _=Data.cell v:=z
   cases z'⟩
 keep:=fun i h h' st k=>k it (by simp) _ st
 item:=by
  intro X hP hw hK hc i pins s σ H E I hf st hg
  subst hP hw hK
  obtain ⟨f0,f1,f2,f3,f4,f5⟩:=hf it (by simp)
  have W:=Walks.range (prog:=X.prog) (w:=X.w) (I.ok.hd hc) it lo 1 n
  refine W.item i s _ _ hg st fun v h' tk hv st' kk=>?_
  obtain ⟨t,rfl⟩:=hv
  have I1:Inv X pins σ H { s with heap:=h',toks:=tk }:=I.turned (fun b o hb e=>kk b o (by simpa using hb) e) f0 f1 f3 f4 f5
  refine ⟨_,rfl,go_of (s:={ s with heap:=h',toks:=tk }) (n:="range_iterator") st' rfl rfl (by decide) ⟨.int (lo+i),H,I1,⟨t,?_⟩,⟨rfl,rfl⟩,st',fun b hb=>(hf b hb).1⟩⟩
  rw [Int.mul_one]
 done:=by
  intro X hP hw hK hc i pins s σ H E I hf st hg
  subst hP hw hK
  obtain ⟨f0,f1,f2,f3,f4,f5⟩:=hf it (by simp)
  exact wpAny_pyNext_range_end (I.ok.hd hc) st (by have:n<=i:=hg;omega) fun h' eb=>⟨rfl,I.turned (t':=s.toks) (fun b o hb e=>eb b o hb e) f0 f1 f3 f4 f5⟩
 self:=fun _ _ _ _ _ st h=>wpAny_pyIter_rangeiter st h
section
variable {X:Cx} {tg:Expr}
def iList (K:PySem.W.Frag) (tl:TE):TI:=fun σ H R=>tl σ H fun x H1=>∃ a,x=.ref a/\(∃ xs,SqL K H1 a xs)/\R (Itl K a) H1
theorem pi_list {l:Expr} {tl:TE} (hl:PE X l tl):PI X tg l (iList X.K tl):=by
 intro pins s σ H R I h
 refine thn (hl pins s σ H _ I h) fun v s1 ⟨x,H1,I1,r1,q1⟩=>?_
 obtain ⟨a,e,⟨xs,hq⟩,q⟩:=q1
 subst e
 cases r1
 obtain ⟨its,rv,p,hz⟩:=I1.list hq
 refine wpAny_pyIter_list p.isList ?_
 refine ⟨s1.heap.objs.size,[s1.heap.objs.size],_,_,H1,rfl,I1.kept (t':=s1.toks) fun b o e=>Heap.get?_push_of_some _ e,turn_list a _,⟨_,Heap.get?_push_size _ rfl,rfl,rfl⟩,fun b hb=>?_,q⟩
 have e:b=s1.heap.objs.size:=by simpa using hb
 subst e
 exact I1.fpOk (Nat.le_refl _) (I1.hok.fresh (Nat.le_refl _))
theorem range_it {pins:List (Addr × Obj)} {σ:St} {H:Hp} {s:Shared} {R:It->Hp->Prop} {E:Value->Shared->Prop} {lo hi:Int} {t u v:Tok} {tk:Nat} (I:Inv X pins σ H s) (h1:-(2 ^ 62)<=lo) (h2:lo < 2 ^ 62) (h3:-(2 ^ 62)<=hi) (h4:hi < 2 ^ 62)
  (q:R (Itr lo (hi - lo).toNat) H):wpAny (model X.prog X.w) X.A (pyIter (.ref s.heap.objs.size)) (PIE X pins σ tg R) E { s with heap:=s.heap.push { cls:=.type "range",data:=.fields #[.int lo t,.int hi u,.int 1 v] },toks:=tk }:=by
 refine wpAny_pyIter_range (IsRange.new ..) (small_one h1 h2 h3 h4) ?_
 have I1:Inv X pins σ H { s with heap:=s.heap.push { cls:=.type "range",data:=.fields #[.int lo t,.int hi u,.int 1 v] },toks:=tk }:=I.kept fun b o e=>Heap.get?_push_of_some _ e
 refine ⟨(s.heap.push { cls:=.type "range",data:=.fields #[.int lo t,.int hi u,.int 1 v] }).objs.size,[(s.heap.push { cls:=.type "range",data:=.fields #[.int lo t,.int hi u,.int 1 v] }).objs.size],_,_,H,rfl,
  I1.kept (t':=tk) fun b o e=>Heap.get?_push_of_some _ e,turn_range _ lo (hi - lo).toNat,?_,fun b hb=>?_,q⟩
 ·have e1:lo+((0:Nat):Int) * 1=lo:=by simp
  have e2:(((hi - lo).toNat:Nat):Int) - ((0:Nat):Int)=Builtin.Range.rangeSize lo hi 1:=by rw [rangeSize_one];split<;>omega
  show IsRangeIter _ _ (lo+((0:Nat):Int) * 1) ((((hi - lo).toNat:Nat):Int) - ((0:Nat):Int)) 1
  rw [e1,e2]
  exact Heap.get?_push_size _ rfl
 ·have e:b=(s.heap.push { cls:=.type "range",data:=.fields #[.int lo t,.int hi u,.int 1 v] }).objs.size:=by simpa using hb
  subst e
  exact I1.fpOk (Nat.le_refl _) (I1.hok.fresh (Nat.le_refl _))
def iRng1 (ta:TA):TI:=fun σ H R=>ta σ H fun vs H1=>∃ j:Int,vs=[.int j]/\-(2 ^ 62)<=j/\j < 2 ^ 62/\R (Itr 0 j.toNat) H1
def iRng2 (ta:TA):TI:=fun σ H R=>ta σ H fun vs H1=>∃ i j:Int,vs=[.int i,.int j]/\(-(2 ^ 62)<=i/\i < 2 ^ 62/\-(2 ^ 62)<=j/\j < 2 ^ 62)/\R (Itr i (j - i).toNat) H1
theorem pi_range1 {a:Expr} {ta:TA} {p pos:Pos} (hg:Gl X "range") (hm:X.mg "range" = none) (ha:PA X [a] ta) (hs:starEach [a] X.env=[(false,eval a X.env)]:=by rfl):PI X tg (.Call (.Name "range" p) [a] [] pos) (iRng1 ta):=by
 intro pins s σ H R I h
 refine Call_ (ld_blt I hg hm boot_range (PyProof.Rows.callWith_type1 (thn (ha pos pins s σ H _ I h) fun us s1 ⟨vs,H1,I1,r1,q1⟩=>?_) hs rfl))
 obtain ⟨j,e,q1,q2,q⟩:=q1
 subst e
 cases r1 with
 | cons r rr =>
  cases rr
  obtain ⟨t,rfl⟩:=r
  exact call_range_1 (range_it I1 (by omega) (by omega) q1 q2 (by simpa using q))
theorem pi_range2 {a b:Expr} {ta:TA} {p pos:Pos} (hg:Gl X "range") (hm:X.mg "range" = none) (ha:PA X [a,b] ta) (hs:starEach [a,b] X.env=[(false,eval a X.env),(false,eval b X.env)]:=by rfl) (hs2:starEach [b] X.env=[(false,eval b X.env)]:=by rfl) :
  PI X tg (.Call (.Name "range" p) [a,b] [] pos) (iRng2 ta):=by
 intro pins s σ H R I h
 refine Call_ (ld_blt I hg hm boot_range (PyProof.Rows.callWith_type1 (thn (ha pos pins s σ H _ I h) fun us s1 ⟨vs,H1,I1,r1,q1⟩=>?_) (by rw [hs,hs2]) (by rw [hs2];rfl)))
 obtain ⟨i,j,e,⟨q1,q2,q3,q4⟩,q⟩:=q1
 subst e
 cases r1 with
 | cons r rr =>
  cases rr with
  | cons r' rr =>
   cases rr
   obtain ⟨t,rfl⟩:=r
   obtain ⟨t',rfl⟩:=r'
   exact call_range_2 (range_it I1 q1 q2 q3 q4 q)
def tFor (wi:TI) (g:TG) (tb:TS):TS:=fun D σ H=>wi σ H fun J H1=>∃ W:Nat->Nat->St->Hp->Prop,(∃ m,W 0 m σ H1)/\∀ i m σ H,W i m σ H ->
 (J.stop i H/\D.nx σ H)\/(J.go i H/\∃ N:St->Hp->Prop,(∀ σ' H',N σ' H'->∃ m',m' < m/\W (i+1) m' σ' H')/\∀ x H',J.yld i H x H'->g x σ H' fun σ2 H2=>tb { D with nx:=N,ct:=N,bk:=D.nx } σ2 H2)
def pinsAt (fp:List Addr) (h:Heap):List (Addr × Obj):=fp.filterMap fun b=>(h.get? b).map fun o=>(b,o)
theorem mem_pinsAt {fp:List Addr} {h:Heap} {b:Addr} {o:Obj} (hb:b∈fp) (e:h.get? b=some o):(b,o)∈pinsAt fp h:=List.mem_filterMap.mpr ⟨b,hb,by rw [e];rfl⟩
theorem of_pinsAt {fp:List Addr} {h:Heap} {p:Addr × Obj} (hp:p∈pinsAt fp h):p.1∈fp/\h.get? p.1=some p.2:=by
 obtain ⟨b,hb,e⟩:=List.mem_filterMap.mp hp
 cases q:h.get? b with
 | none=>rw [q] at e;cases e
 | some o =>
  rw [q] at e
  have e':(b,o)=p:=Option.some.inj e
  subst e'
  exact ⟨hb,q⟩
theorem Inv.pinned {pins:List (Addr × Obj)} {σ:St} {H:Hp} {s:Shared} {fp:List Addr} (I:Inv X pins σ H s) (hf:∀ b∈fp,FpOk X pins H b) (ho:∀ b∈fp,∃ o,s.heap.get? b=some o/\∀ v,o.data≠.cell v):Inv X (pins++pinsAt fp s.heap) σ H s :=
 I.pins_of fun p hp=>(List.mem_append.mp hp).elim (fun z=>I.pin p (List.mem_append_right _ z)) fun z=>by
  obtain ⟨hb,e⟩:=of_pinsAt z
  obtain ⟨f0,f1,f2,_⟩:=hf p.1 hb
  obtain ⟨o,e',d⟩:=ho p.1 hb
  rw [e] at e';cases e'
  exact ⟨e,f0,f1,f2,d⟩
theorem Inv.unpinned {pins pl:List (Addr × Obj)} {σ:St} {H:Hp} {s:Shared} (I:Inv X (pins++pl) σ H s):Inv X pins σ H s:=I.pins_of fun p hp=>I.pin p (List.mem_append_right _ (List.mem_append_left _ hp))
theorem ps_for {iter:Expr} {body:List Stmt} {wi:TI} {g:TG} {tb:TS} {pos:Pos} (hp:PassesOwn (model X.prog X.w) X.A X.env X.xe) (hc:X.calm=true) (hi:PI X tg iter wi) (hg:PG X tg g) (hb:PSs X body tb)
  (hs:∀ x,foldedSetIterable iter X.env x=pure x:=by intro _;rfl):PS X (.For tg iter body [] pos) (tFor wi g tb):=by
 intro pins s σ H D I h
 refine wpAny_For (thn (hi pins s σ H _ I h) fun v s1 h1=>thn h1 fun itv s2 h2=>?_) hs
 obtain ⟨it,fp,tn,J,H2,e,I2,T,st2,f2,W,⟨m0,w0⟩,turn⟩:=h2
 subst e
 have stat:∀ {H':Hp},(∀ b∈fp,H' b=none)->∀ b∈fp,FpOk X pins H' b:=fun hn b hb=>⟨hn b hb,(f2 b hb).2⟩
 refine codeAny_forLoop_any (fun n s'=>∃ i σ' H',Inv X pins σ' H' s'/\tn i s'.heap/\(∀ b∈fp,H' b=none)/\W i n σ' H') ?_ m0 ⟨0,σ,H2,I2,st2,fun b hb=>(f2 b hb).1,w0⟩
 rintro n s3 ⟨i,σ3,H3,I3,st3,fr3,w3⟩
 rcases turn i n σ3 H3 w3 with ⟨stop,qn⟩ | ⟨go,N,hN,step⟩
 ·refine wpAny_passesOwn hp (thn (T.done X rfl rfl rfl hc i pins s3 σ3 H3 X.xe I3 (stat fr3) st3 stop) fun r s4 ⟨hr,I4⟩=>?_)
  subst hr
  exact wpAny_execs_nil ⟨σ3,H3,I4,qn⟩
 ·refine wpAny_passesOwn hp (thn (T.item X rfl rfl rfl hc i pins s3 σ3 H3 X.xe I3 (stat fr3) st3 go) fun r s4 ⟨u,hr,h4⟩=>?_)
  subst hr
  refine wpAny_passesOwn hp (thn h4 fun _ s5 ⟨x,H5,I5,r5,y5,st5,fr5⟩=>?_)
  have I5':=I5.pinned (stat fr5) (T.obj _ _ st5)
  refine wpAny_passesOwn hp (thn (hg _ s5 σ3 H5 x u _ I5' r5 (step x H5 y5)) fun _ s6 ⟨σ6,H6,I6,q6⟩=>?_)
  refine wpAny_passesOwn hp (thn (hb _ s6 σ6 H6 _ I6 q6) fun f s7 q7=>?_)
  have again:∀ {σ7:St} {H7:Hp},Inv X (pins++pinsAt fp s5.heap) σ7 H7 s7->N σ7 H7->∃ m,m < n/\∃ i σ' H',Inv X pins σ' H' s7/\tn i s7.heap/\(∀ b∈fp,H' b=none)/\W i m σ' H':=fun {σ7 H7} I7 n7=>by
   obtain ⟨m',hm,w7⟩:=hN σ7 H7 n7
   refine ⟨m',hm,i+1,σ7,H7,I7.unpinned,T.keep _ _ _ st5 fun b hb o e=>(I7.pin (b,o) (List.mem_append_right _ (List.mem_append_right _ (mem_pinsAt hb e)))).1,fun b hb=>?_,w7⟩
   obtain ⟨o,e,d⟩:=T.obj _ _ st5 b hb
   exact (I7.pin (b,o) (List.mem_append_right _ (List.mem_append_right _ (mem_pinsAt hb e)))).2.1
  cases f with
  | next=>obtain ⟨σ7,H7,I7,n7⟩:=q7;exact again I7 n7
  | cont=>obtain ⟨σ7,H7,I7,n7⟩:=q7;exact again I7 n7
  | brk=>obtain ⟨σ7,H7,I7,q7⟩:=q7;exact ⟨σ7,H7,I7.unpinned,q7⟩
  | ret v=>obtain ⟨x7,σ7,H7,I7,r7,q7⟩:=q7;exact ⟨x7,σ7,H7,I7.unpinned,r7,q7⟩
end
theorem for_list {K:PySem.W.Frag} {a:Addr} {xs:List V} {g:TG} {tb:TS} {D:Ends} {σ:St} {H:Hp} (Pv:Nat->St->Hp->Prop) (h0:Pv 0 σ H) (hl:∀ i σ H,i<=xs.length->Pv i σ H->SqL K H a xs)
  (hs:∀ i x σ H,xs[i]?=some x->Pv i σ H->g x σ H fun σ2 H2=>tb { D with nx:=Pv (i+1),ct:=Pv (i+1),bk:=D.nx } σ2 H2) (hd:∀ σ H,Pv xs.length σ H->D.nx σ H) :
  ∃ W:Nat->Nat->St->Hp->Prop,(∃ m,W 0 m σ H)/\∀ i m σ H,W i m σ H ->
   ((Itl K a).stop i H/\D.nx σ H)\/((Itl K a).go i H/\∃ N:St->Hp->Prop,(∀ σ' H',N σ' H'->∃ m',m' < m/\W (i+1) m' σ' H')/\∀ x H',(Itl K a).yld i H x H'->g x σ H' fun σ2 H2=>tb { D with nx:=N,ct:=N,bk:=D.nx } σ2 H2):=by
 refine ⟨fun i m σ H=>m=xs.length - i/\i<=xs.length/\Pv i σ H,⟨xs.length,by simp,Nat.zero_le _,h0⟩,?_⟩
 rintro i m σ H ⟨rfl,hi,p⟩
 have q:=hl i σ H hi p
 by_cases hlt:i < xs.length
 ·refine .inr ⟨⟨xs,xs[i],q,by simp [hlt]⟩,Pv (i+1),fun σ' H' p'=>⟨xs.length - (i+1),by omega,rfl,hlt,p'⟩,fun x H' y=>?_⟩
  obtain ⟨e,y⟩:=y
  subst e
  exact hs i x σ _ (y xs q) p
 ·have e:i=xs.length:=by omega
  subst e
  exact .inl ⟨⟨xs,q,Nat.le_refl _⟩,hd σ H p⟩
theorem for_range {lo:Int} {n:Nat} {g:TG} {tb:TS} {D:Ends} {σ:St} {H:Hp} (Pv:Nat->St->Hp->Prop) (h0:Pv 0 σ H)
  (hs:∀ i σ H,i < n->Pv i σ H->g (.int (lo+i)) σ H fun σ2 H2=>tb { D with nx:=Pv (i+1),ct:=Pv (i+1),bk:=D.nx } σ2 H2) (hd:∀ σ H,Pv n σ H->D.nx σ H) :
  ∃ W:Nat->Nat->St->Hp->Prop,(∃ m,W 0 m σ H)/\∀ i m σ H,W i m σ H ->
   ((Itr lo n).stop i H/\D.nx σ H)\/((Itr lo n).go i H/\∃ N:St->Hp->Prop,(∀ σ' H',N σ' H'->∃ m',m' < m/\W (i+1) m' σ' H')/\∀ x H',(Itr lo n).yld i H x H'->g x σ H' fun σ2 H2=>tb { D with nx:=N,ct:=N,bk:=D.nx } σ2 H2):=by
 refine ⟨fun i m σ H=>m=n - i/\i<=n/\Pv i σ H,⟨n,by simp,Nat.zero_le _,h0⟩,?_⟩
 rintro i m σ H ⟨rfl,hi,p⟩
 by_cases hlt:i < n
 ·refine .inr ⟨hlt,Pv (i+1),fun σ' H' p'=>⟨n - (i+1),by omega,rfl,hlt,p'⟩,fun x H' y=>?_⟩
  obtain ⟨e,y⟩:=y
  subst e y
  exact hs i σ _ hlt p
 ·have e:i=n:=by omega
  subst e
  exact .inl ⟨Nat.le_refl _,hd σ H p⟩
abbrev R2:=V->V->Hp->VK->Prop
def OpR (X:Cx) (f:Value->Value->Sem Value) (r:R2):Prop :=
 ∀ (pins:List (Addr × Obj)) (s:Shared) (σ:St) (H:Hp) (x y:V) (v u:Value) (Q:VK),Inv X pins σ H s->RelV x v->RelV y u->r x y H Q ->
  wpAny (model X.prog X.w) X.A (f v u) (EP X pins σ Q) X.xe s
def UnR (X:Cx) (f:Value->Sem Value) (r:V->Hp->VK->Prop):Prop :=
 ∀ (pins:List (Addr × Obj)) (s:Shared) (σ:St) (H:Hp) (x:V) (v:Value) (Q:VK),Inv X pins σ H s->RelV x v->r x H Q ->
  wpAny (model X.prog X.w) X.A (f v) (EP X pins σ Q) X.xe s
def CallR (X:Cx) (f:Value) (r:List V->Hp->VK->Prop):Prop :=
 ∀ (pins:List (Addr × Obj)) (s:Shared) (σ:St) (H:Hp) (xs:List V) (us:List Value) (Q:VK),Inv X pins σ H s->Vals xs us->r xs H Q ->
  wpAny (model X.prog X.w) X.A (call f us) (EP X pins σ Q) X.xe s
def TruR (X:Cx) (r:V->Hp->(Bool->Hp->Prop)->Prop):Prop :=
 ∀ (pins:List (Addr × Obj)) (s:Shared) (σ:St) (H:Hp) (x:V) (v:Value) (Q:Bool->Hp->Prop),Inv X pins σ H s->RelV x v->r x H Q ->
  wpAny (model X.prog X.w) X.A (truthy v) (TP X pins σ Q) X.xe s
def tOp (r:R2) (ta tb:TE):TE:=fun σ H Q=>ta σ H fun x H1=>tb σ H1 fun y H2=>r x y H2 Q
def tUn (r:V->Hp->VK->Prop) (ta:TE):TE:=fun σ H Q=>ta σ H fun x H1=>r x H1 Q
def rI (C:Int->Int->Prop) (g:Int->Int->V):R2:=fun x y H Q=>∃ i j,x=.int i/\y=.int j/\C i j/\Q (g i j) H
def rI0 (g:Int->Int->V):R2:=fun x y H Q=>∃ i j,x=.int i/\y=.int j/\Q (g i j) H
def rU (g:Int->V):V->Hp->VK->Prop:=fun x H Q=>∃ i,x=.int i/\Q (g i) H
section
variable {X:Cx} {a b c:Expr} {ta tb tc:TE} {pos:Pos}
theorem binT (ha:PE X a ta) (hb:PE X b tb) {pins:List (Addr × Obj)} {s:Shared} {σ:St} {H:Hp} {R:V->V->Hp->Prop} (I:Inv X pins σ H s)
  (h:ta σ H fun x H1=>tb σ H1 fun y H2=>R x y H2) {Q:Value->Shared->Prop} {f:Value->Value->Sem Value}
  (hf:∀ v u s2 x y H2,Inv X pins σ H2 s2->RelV x v->RelV y u->R x y H2->wpAny (model X.prog X.w) X.A (f v u) Q X.xe s2) :
  wpAny (model X.prog X.w) X.A (eval a X.env) (fun v s₁=>wpAny (model X.prog X.w) X.A (eval b X.env) (fun u s₂=>wpAny (model X.prog X.w) X.A (f v u) Q X.xe s₂) X.xe s₁) X.xe s:=by
 refine thn (ha pins s σ H _ I h) fun v s1 ⟨x,H1,I1,r1,q1⟩=>?_
 refine thn (hb pins s1 σ H1 _ I1 q1) fun u s2 ⟨y,H2,I2,r2,q2⟩=>?_
 exact hf v u s2 x y H2 I2 r1 r2 q2
theorem pe_op {op:Operator} {r:R2} (ho:OpR X (binaryOp op) r) (ha:PE X a ta) (hb:PE X b tb):PE X (.BinOp a op b pos) (tOp r ta tb):=by
 intro pins s σ H Q I h
 exact wpAny_BinOp (binT ha hb I h fun v u s2 x y H2 I2 rx ry q=>ho pins s2 σ H2 x y v u Q I2 rx ry q)
theorem pe_un {op:UnaryOp} {r:V->Hp->VK->Prop} (ho:UnR X (unaryOp op) r) (ha:PE X a ta):PE X (.UnaryOp op a pos) (tUn r ta):=by
 intro pins s σ H Q I h
 exact UnaryOp_ (thn (ha pins s σ H _ I h) fun v s1 ⟨x,H1,I1,r1,q1⟩=>ho pins s1 σ H1 x v Q I1 r1 q1)
theorem opI {f:Value->Value->Sem Value} {C:Int->Int->Prop} {g:Int->Int->Int}
  (rule:∀ (i j:Int) (t u:Tok) (s:Shared) (Q:Value->Shared->Prop) (E:Value->Shared->Prop),C i j->Q (.int (g i j) s.toks) { s with toks:=s.toks+1 }->wpAny (model X.prog X.w) X.A (f (.int i t) (.int j u)) Q E s) :
  OpR X f (rI C fun i j=>.int (g i j)):=by
 intro pins s σ H x y v u Q I rx ry h
 obtain ⟨i,j,rfl,rfl,hc,q⟩:=h
 obtain ⟨t,rfl⟩:=rx
 obtain ⟨t',rfl⟩:=ry
 exact rule i j t t' s _ _ hc ⟨.int (g i j),H,I.tok _,⟨_,rfl⟩,q⟩
theorem opI0 {f:Value->Value->Sem Value} {g:Int->Int->Int}
  (rule:∀ (i j:Int) (t u:Tok) (s:Shared) (Q:Value->Shared->Prop) (E:Value->Shared->Prop),Q (.int (g i j) s.toks) { s with toks:=s.toks+1 }->wpAny (model X.prog X.w) X.A (f (.int i t) (.int j u)) Q E s) :
  OpR X f (rI0 fun i j=>.int (g i j)):=by
 intro pins s σ H x y v u Q I rx ry h
 obtain ⟨i,j,rfl,rfl,q⟩:=h
 obtain ⟨t,rfl⟩:=rx
 obtain ⟨t',rfl⟩:=ry
 exact rule i j t t' s _ _ ⟨.int (g i j),H,I.tok _,⟨_,rfl⟩,q⟩
theorem opB0 {f:Value->Value->Sem Value} {g:Int->Int->Bool}
  (rule:∀ (i j:Int) (t u:Tok) (s:Shared) (Q:Value->Shared->Prop) (E:Value->Shared->Prop),Q (.bool (g i j)) s->wpAny (model X.prog X.w) X.A (f (.int i t) (.int j u)) Q E s) :
  OpR X f (rI0 fun i j=>.bl (g i j)):=by
 intro pins s σ H x y v u Q I rx ry h
 obtain ⟨i,j,rfl,rfl,q⟩:=h
 obtain ⟨t,rfl⟩:=rx
 obtain ⟨t',rfl⟩:=ry
 exact rule i j t t' s _ _ ⟨.bl (g i j),H,I,rfl,q⟩
def CDiv (i j:Int):Prop:=0 < j/\j < 1073741824
def CPow (i j:Int):Prop:=0<=j/\j<=1000000/\i.natAbs < 2 ^ 64
def CMul (i j:Int):Prop:=(-(2 ^ 64) < i/\i < 2 ^ 64)\/(-(2 ^ 64) < j/\j < 2 ^ 64)
theorem CMul.ok {i j:Int} (h:CMul i j):IntMulOk i j:=by
 rcases h with ⟨h1,h2⟩ | ⟨h1,h2⟩
 ·exact .of_left (intBits_le_64 h1 h2)
 ·exact .of_right (intBits_le_64 h1 h2)
theorem two_pow_nn (k:Nat):(0:Int)<=2 ^ k:=by
 rw [two_pow_cast]
 exact Int.natCast_nonneg _
theorem op_add:OpR X (binaryOp .Add) (rI0 fun i j=>.int (i+j)):=opI0 fun _ _ _ _ _ _ _ q=>add_int q
theorem op_sub:OpR X (binaryOp .Sub) (rI0 fun i j=>.int (i - j)):=opI0 fun _ _ _ _ _ _ _ q=>sub_int q
theorem op_mul:OpR X (binaryOp .Mult) (rI CMul fun i j=>.int (i * j)):=opI fun _ _ _ _ _ _ _ hc q=>mul_int q hc.ok
theorem op_fdiv:OpR X (binaryOp .FloorDiv) (rI CDiv fun i j=>.int (i / j)):=opI fun i j _ _ _ _ _ hc q=>by
 have h1:(0:Int) < j:=hc.1
 have h2:j < 1073741824:=hc.2
 exact floordiv_int (by omega) (by rw [Int.fdiv_eq_ediv_of_nonneg i (by omega)];exact q) (.inl (PyProof.noPylong_small (by omega)))
theorem op_mod:OpR X (binaryOp .Mod) (rI (fun _ j=>0 < j) fun i j=>.int (i % j)):=opI fun i j _ _ _ _ _ hc q=>by
 have h1:(0:Int) < j:=hc
 exact mod_int' (by omega) (by rw [Int.fmod_eq_emod_of_nonneg i (by omega)];exact q)
theorem op_pow:OpR X (binaryOp .Pow) (rI CPow fun i j=>.int (i ^ j.toNat)):=opI fun _ _ _ _ _ _ _ hc q=>pow_int_small hc.1 hc.2.1 hc.2.2 q
theorem op_shl:OpR X (binaryOp .LShift) (rI CPow fun i j=>.int (i * 2 ^ j.toNat)):=opI fun _ _ _ _ _ _ _ hc q=>lshift_int_small hc.1 hc.2.1 hc.2.2 q
theorem op_shr:OpR X (binaryOp .RShift) (rI (fun _ j=>0<=j) fun i j=>.int (i / 2 ^ j.toNat)):=opI fun i j _ _ _ _ _ hc q =>
 rshift_int hc (by rw [Int.fdiv_eq_ediv_of_nonneg i (two_pow_nn _)];exact q)
theorem op_and:OpR X (binaryOp .BitAnd) (rI0 fun i j=>.int (Builtin.bitAnd i j)):=opI0 fun _ _ _ _ _ _ _ q=>and_int q
theorem unI {f:Value->Sem Value} {g:Int->Int}
  (rule:∀ (i:Int) (t:Tok) (s:Shared) (Q:Value->Shared->Prop) (E:Value->Shared->Prop),Q (.int (g i) s.toks) { s with toks:=s.toks+1 }->wpAny (model X.prog X.w) X.A (f (.int i t)) Q E s) :
  UnR X f (rU fun i=>.int (g i)):=by
 intro pins s σ H x v Q I rx h
 obtain ⟨i,rfl,q⟩:=h
 obtain ⟨t,rfl⟩:=rx
 exact rule i t s _ _ ⟨.int (g i),H,I.tok _,⟨_,rfl⟩,q⟩
theorem un_neg:UnR X (unaryOp .USub) (rU fun i=>.int (-i)):=unI fun _ _ _ _ _ q=>neg_int q
end
def scal:V->V->Bool
 | .non,.non=>true | .non,.int _=>true | .int _,.non=>true | .non,.bl _=>true | .bl _,.non=>true | .non,.str _=>true | .str _,.non=>true
 | .int _,.int _=>true | .bl _,.bl _=>true | .str _,.str _=>true | .byt _,.byt _=>true
 | .int _,.str _=>true | .str _,.int _=>true | .bl _,.str _=>true | .str _,.bl _=>true
 | _,_=>false
def rEq:R2:=fun x y H Q=>scal x y=true/\Q (.bl (decide (x=y))) H
def rNe:R2:=fun x y H Q=>scal x y=true/\Q (.bl (!decide (x=y))) H
theorem dec_int {i j:Int}:decide (V.int i=V.int j)=(i == j):=by
 rw [Bool.eq_iff_iff]
 simp
theorem dec_bl {i j:Bool}:decide (V.bl i=V.bl j)=(i == j):=by
 rw [Bool.eq_iff_iff]
 simp
theorem dec_str {i j:Str}:decide (V.str i=V.str j)=(i == j):=by
 rw [Bool.eq_iff_iff]
 simp
theorem dec_byt {i j:Array UInt8}:decide (V.byt i=V.byt j)=(i.toList == j.toList):=by
 rw [Bool.eq_iff_iff]
 cases i
 cases j
 simp
section
variable {X:Cx} {a b c:Expr} {ta tb tc:TE} {pos:Pos}
theorem fin_bl {pins:List (Addr × Obj)} {σ:St} {H:Hp} {s:Shared} {Q:VK} {k k':Bool} (I:Inv X pins σ H s) (q:Q (.bl k) H) (e:k=k'):EP X pins σ Q (.bool k') s:=by
 subst e
 exact ⟨.bl k,H,I,rfl,q⟩
theorem op_eq:OpR X (compareOp .Eq) rEq:=by
 intro pins s σ H x y v u Q I rx ry h
 obtain ⟨hs,q⟩:=h
 cases x with
 | non =>
  cases rx
  cases y with
  | non=>cases ry;exact PySem.EqNone.eq_none_none (fin_bl I q (by simp))
  | bl j=>cases ry;exact PySem.EqNone.eq_none_bool (fin_bl I q (by simp))
  | int j=>obtain ⟨t',rfl⟩:=ry;exact PySem.EqNone.eq_none_int (fin_bl I q (by simp))
  | str j=>obtain ⟨t',rfl⟩:=ry;exact PySem.EqNone.eq_none_str (fin_bl I q (by simp))
  | _=>exact absurd (show false=true from hs) Bool.false_ne_true
 | bl i =>
  cases rx
  cases y with
  | non=>cases ry;exact PySem.EqNone.eq_bool_none (fin_bl I q (by simp))
  | bl j=>cases ry;exact eq_bool (fin_bl I q dec_bl)
  | str j=>obtain ⟨t',rfl⟩:=ry;exact PySem.EqMixed.eq_bool_str (fin_bl I q (by simp))
  | _=>exact absurd (show false=true from hs) Bool.false_ne_true
 | int i =>
  obtain ⟨t,rfl⟩:=rx
  cases y with
  | non=>cases ry;exact PySem.EqNone.eq_int_none (fin_bl I q (by simp))
  | int j=>obtain ⟨t',rfl⟩:=ry;exact eq_int (fin_bl I q dec_int)
  | str j=>obtain ⟨t',rfl⟩:=ry;exact PySem.EqMixed.eq_int_str (fin_bl I q (by simp))
  | _=>exact absurd (show false=true from hs) Bool.false_ne_true
 | str i =>
  obtain ⟨t,rfl⟩:=rx
  cases y with
  | non=>cases ry;exact PySem.EqNone.eq_str_none (fin_bl I q (by simp))
  | bl j=>cases ry;exact PySem.EqMixed.eq_str_bool (fin_bl I q (by simp))
  | int j=>obtain ⟨t',rfl⟩:=ry;exact PySem.EqMixed.eq_str_int (fin_bl I q (by simp))
  | str j=>obtain ⟨t',rfl⟩:=ry;exact eq_str (fin_bl I q dec_str)
  | _=>exact absurd (show false=true from hs) Bool.false_ne_true
 | byt i =>
  obtain ⟨t,rfl⟩:=rx
  cases y with
  | byt j=>obtain ⟨t',rfl⟩:=ry;exact PySem.W.eq_bytes (fin_bl I q dec_byt)
  | _=>exact absurd (show false=true from hs) Bool.false_ne_true
 | _=>cases y<;>exact absurd (show false=true from hs) Bool.false_ne_true
theorem op_ne:OpR X (compareOp .NotEq) rNe:=by
 intro pins s σ H x y v u Q I rx ry h
 obtain ⟨hs,q⟩:=h
 cases x with
 | non =>
  cases rx
  cases y with
  | non=>cases ry;exact PySem.EqNone.ne_none_none (fin_bl I q (by simp))
  | bl j=>cases ry;exact PySem.EqNone.ne_none_bool (fin_bl I q (by simp))
  | int j=>obtain ⟨t',rfl⟩:=ry;exact PySem.EqNone.ne_none_int (fin_bl I q (by simp))
  | str j=>obtain ⟨t',rfl⟩:=ry;exact PySem.EqNone.ne_none_str (fin_bl I q (by simp))
  | _=>exact absurd (show false=true from hs) Bool.false_ne_true
 | bl i =>
  cases rx
  cases y with
  | non=>cases ry;exact PySem.EqNone.ne_bool_none (fin_bl I q (by simp))
  | bl j=>cases ry;exact ne_bool (fin_bl I q (congrArg not dec_bl))
  | str j=>obtain ⟨t',rfl⟩:=ry;exact PySem.EqMixed.ne_bool_str (fin_bl I q (by simp))
  | _=>exact absurd (show false=true from hs) Bool.false_ne_true
 | int i =>
  obtain ⟨t,rfl⟩:=rx
  cases y with
  | non=>cases ry;exact PySem.EqNone.ne_int_none (fin_bl I q (by simp))
  | int j=>obtain ⟨t',rfl⟩:=ry;exact ne_int (fin_bl I q (congrArg not dec_int))
  | str j=>obtain ⟨t',rfl⟩:=ry;exact PySem.EqMixed.ne_int_str (fin_bl I q (by simp))
  | _=>exact absurd (show false=true from hs) Bool.false_ne_true
 | str i =>
  obtain ⟨t,rfl⟩:=rx
  cases y with
  | non=>cases ry;exact PySem.EqNone.ne_str_none (fin_bl I q (by simp))
  | bl j=>cases ry;exact PySem.EqMixed.ne_str_bool (fin_bl I q (by simp))
  | int j=>obtain ⟨t',rfl⟩:=ry;exact PySem.EqMixed.ne_str_int (fin_bl I q (by simp))
  | str j=>obtain ⟨t',rfl⟩:=ry;exact ne_str (fin_bl I q (congrArg not dec_str))
  | _=>exact absurd (show false=true from hs) Bool.false_ne_true
 | byt i =>
  obtain ⟨t,rfl⟩:=rx
  cases y with
  | byt j=>obtain ⟨t',rfl⟩:=ry;exact PySem.W.ne_bytes (fin_bl I q (congrArg not dec_byt))
  | _=>exact absurd (show false=true from hs) Bool.false_ne_true
 | _=>cases y<;>exact absurd (show false=true from hs) Bool.false_ne_true
theorem op_lt:OpR X (compareOp .Lt) (rI0 fun i j=>.bl (decide (i < j))):=opB0 fun _ _ _ _ _ _ _ q=>lt_int q
theorem op_le:OpR X (compareOp .LtE) (rI0 fun i j=>.bl (decide (i<=j))):=opB0 fun _ _ _ _ _ _ _ q=>le_int q
theorem op_gt:OpR X (compareOp .Gt) (rI0 fun i j=>.bl (decide (j < i))):=opB0 fun _ _ _ _ _ _ _ q=>gt_int q
theorem nomark (b:Expr) {op:CmpOp} (h:op≠.In:=by decide) (h2:op≠.NotIn:=by decide):behindInMarks op b=false:=by
 have e1:(op == CmpOp.In)=false:=by cases op<;>first | rfl | exact absurd rfl h
 have e2:(op == CmpOp.NotIn)=false:=by cases op<;>first | rfl | exact absurd rfl h2
 cases b<;>simp [behindInMarks,e1,e2]
theorem pe_cmpR {op:CmpOp} {r:R2} (ho:OpR X (compareOp op) r) (ha:PE X a ta) (hb:PE X b tb) (hm:behindInMarks op b=false):PE X (.Compare a [op] [b] pos) (tOp r ta tb):=by
 intro pins s σ H Q I h
 exact wpAny_Compare1 (binT ha hb I h fun v u s2 x y H2 I2 rx ry q=>ho pins s2 σ H2 x y v u Q I2 rx ry q) hm
def tTest (t:TE):TT:=fun σ H Q=>t σ H fun x H'=>∃ k,x=.bl k/\Q k H'
theorem pt_cmpR {op:CmpOp} {r:R2} (ho:OpR X (compareOp op) r) (ha:PE X a ta) (hb:PE X b tb) (hm:behindInMarks op b=false):PT X (.Compare a [op] [b] pos) (tTest (tOp r ta tb)):=by
 intro pins s σ H Q I h
 refine wpAny_isTrue_Compare1 (thn (ha pins s σ H _ I h) fun v s1 ⟨x,H1,I1,r1,q1⟩=>thn (hb pins s1 σ H1 _ I1 q1) fun u s2 ⟨y,H2,I2,r2,q2⟩ =>
  thn (ho pins s2 σ H2 x y v u _ I2 r1 r2 q2) fun c s3 ⟨z,H3,I3,r3,k,e,q3⟩=>?_) hm
 subst e
 cases r3
 exact wpAny_truthy_bool ⟨H3,I3,q3⟩
def tChain (r r':R2) (ta tb tc:TE):TE:=fun σ H Q=>ta σ H fun x H1=>tb σ H1 fun y H2=>r x y H2 fun z H3=>∃ k,z=.bl k /\
 (if k=true then tc σ H3 fun w' H4=>r' y w' H4 Q else Q (.bl false) H3)
theorem pe_chain {op op':CmpOp} {r r':R2} (ho:OpR X (compareOp op) r) (ho':OpR X (compareOp op') r') (ha:PE X a ta) (hb:PE X b tb) (hc:PE X c tc)
  (hm:lastMarks [op,op'] [b,c]=false:=by with_unfolding_all rfl):PE X (.Compare a [op,op'] [b,c] pos) (tChain r r' ta tb tc):=by
 intro pins s σ H Q I h
 refine Compare_chain (thn (ha pins s σ H _ I h) fun v s1 ⟨x,H1,I1,r1,q1⟩=>chain_link (thn (hb pins s1 σ H1 _ I1 q1) fun u s2 ⟨y,H2,I2,r2,q2⟩ =>
  thn (ho pins s2 σ H2 x y v u _ I2 r1 r2 q2) fun d s3 ⟨z,H3,I3,r3,k,e,q3⟩=>?_)) hm
 subst e
 cases r3
 refine wpAny_truthy_bool ?_
 cases k with
 | false=>exact ite_ff ⟨.bl false,H3,I3,rfl,q3⟩
 | true=>exact ite_tt (chain_last (thn (hc pins s3 σ H3 _ I3 q3) fun w' s4 ⟨z',H4,I4,r4,q4⟩=>ho' pins s4 σ H4 y z' u w' Q I4 r2 r4 q4))
theorem pt_chain {op op':CmpOp} {r r':R2} (ho:OpR X (compareOp op) r) (ho':OpR X (compareOp op') r') (ha:PE X a ta) (hb:PE X b tb) (hc:PE X c tc)
  (hm:lastMarks [op,op'] [b,c]=false:=by with_unfolding_all rfl):PT X (.Compare a [op,op'] [b,c] pos) (tTest (tChain r r' ta tb tc)):=by
 intro pins s σ H Q I h
 refine isTrue_chain (thn (ha pins s σ H _ I h) fun v s1 ⟨x,H1,I1,r1,q1⟩=>test_link (thn (hb pins s1 σ H1 _ I1 q1) fun u s2 ⟨y,H2,I2,r2,q2⟩ =>
  thn (ho pins s2 σ H2 x y v u _ I2 r1 r2 q2) fun d s3 ⟨z,H3,I3,r3,k,e,q3⟩=>?_)) hm
 subst e
 cases r3
 refine wpAny_truthy_bool ?_
 cases k with
 | false =>
  obtain ⟨k',e',q'⟩:=q3
  cases e'
  exact ite_ff ⟨H3,I3,q'⟩
 | true =>
  refine ite_tt (test_last (thn (hc pins s3 σ H3 _ I3 q3) fun w' s4 ⟨z',H4,I4,r4,q4⟩=>thn (ho' pins s4 σ H4 y z' u w' _ I4 r2 r4 q4) fun d' s5 ⟨z2,H5,I5,r5,k2,e2,q5⟩=>?_))
  subst e2
  cases r5
  exact wpAny_truthy_bool ⟨H5,I5,q5⟩
def TruV (K:PySem.W.Frag) (x:V) (H:Hp) (k:Bool):Prop :=
 match x with
 | .non=>k=false
 | .bl b=>k=b
 | .int i=>k=(i != 0)
 | .str y=>y.length<=sizeLine/\k=((y.length:Int) != 0)
 | .byt y=>y.size<=sizeLine/\k=((y.size:Int) != 0)
 | .ref p=>(∃ xs,SqL K H p xs/\k=!xs.isEmpty)\/(∃ xs,SqT K H p xs/\k=!xs.isEmpty)\/∃ kvs,H p=some (.dK kvs)/\k=!kvs.isEmpty
 | _=>False
theorem isEmpty_kv {κ:Type} {kvs:List (κ × V)} {vs:List (κ × Value)} (r:KV kvs vs):(!vs.isEmpty)=!kvs.isEmpty:=by
 cases r<;>rfl
theorem isEmpty_of {xs:List V} {its:List Value} (r:Vals xs its):(!its.toArray.isEmpty)=!xs.isEmpty:=by
 cases r<;>simp
theorem line63:(sizeLine:Nat) < 2 ^ 63:=by rw [sizeLine_eq];decide
theorem tru_ok:TruR X (fun x H Q=>∃ k,TruV X.K x H k/\Q k H):=by
 intro pins s σ H x v Q I rx h
 obtain ⟨k,e,q⟩:=h
 have hl:=line63
 have hs:sizeLine=16777216:=sizeLine_eq
 cases x with
 | non =>
  cases rx
  have e':k=false:=e
  subst e'
  exact truthy_none ⟨H,I,q⟩
 | bl b =>
  cases rx
  have e':k=b:=e
  subst e'
  exact wpAny_truthy_bool ⟨H,I,q⟩
 | int i =>
  obtain ⟨t,rfl⟩:=rx
  have e':k=(i != 0):=e
  subst e'
  exact PySem.P.truthy_int ⟨H,I,q⟩
 | str y =>
  obtain ⟨t,rfl⟩:=rx
  obtain ⟨hy,e'⟩:y.length<=sizeLine/\k=((y.length:Int) != 0):=e
  subst e'
  exact PySem.P.truthy_str (by omega) ⟨H,I.tok _,q⟩
 | byt y =>
  obtain ⟨t,rfl⟩:=rx
  obtain ⟨hy,e'⟩:y.size<=sizeLine/\k=((y.size:Int) != 0):=e
  subst e'
  exact PySem.W.truthy_bytes (by omega) ⟨H,I.tok _,q⟩
 | ref p =>
  cases rx
  have e':(∃ xs,SqL X.K H p xs/\k=!xs.isEmpty)\/(∃ xs,SqT X.K H p xs/\k=!xs.isEmpty)\/∃ kvs,H p=some (.dK kvs)/\k=!kvs.isEmpty:=e
  rcases e' with ⟨xs,hx,e'⟩ | ⟨xs,hx,e'⟩ | ⟨kvs,hx,e'⟩
  ·subst e'
   obtain ⟨its,r,pl,hz⟩:=I.list hx
   have hlen:=r.length
   exact wpAny_truthy_list pl.isList (by simp only [List.size_toArray];omega) ⟨H,I.tok _,by rw [isEmpty_of r];exact q⟩
  ·subst e'
   obtain ⟨its,r,pl,hz⟩:=I.tuple hx
   have hlen:=r.length
   exact truthy_tuple pl (by simp only [List.size_toArray];omega) ⟨H,I.tok _,by rw [isEmpty_of r];exact q⟩
  ·subst e'
   obtain ⟨hz,hS,vs,r,m⟩:kvs.length<=sizeLine/\(p == sysModules)=false/\∃ vs,KV kvs vs/\s.heap.DictOf (mixKind X.prog X.w) p vs:=I.hok p _ hx
   have hlen:kvs.length=vs.length:=Paired.length r
   exact wpAny_truthy_dict hS m (by omega) ⟨H,I.tok _,by rw [isEmpty_kv r];exact q⟩
 | _=>exact (show False from e).elim
theorem pt_truth (ha:PE X a ta) (he:∀ whole,isTrue a X.env whole=(do let v <- whole;standAt a.pos;holding [v] (truthy v))) :
  PT X a (fun σ H Q=>ta σ H fun x H'=>∃ k,TruV X.K x H' k/\Q k H'):=by
 intro pins s σ H Q I h
 exact isTrue_plain (thn (ha pins s σ H _ I h) fun v s1 ⟨x,H1,I1,r1,q1⟩=>tru_ok pins s1 σ H1 x v Q I1 r1 q1) (he _)
theorem vals1 {x:V} {us:List Value} (r:Vals [x] us):∃ u,us=[u]/\RelV x u:=by
 cases r with
 | cons r1 r2=>cases r2;exact ⟨_,rfl,r1⟩
theorem vals2 {x y:V} {us:List Value} (r:Vals [x,y] us):∃ u w',us=[u,w']/\RelV x u/\RelV y w':=by
 cases r with
 | cons r1 r2 =>
  cases r2 with
  | cons r3 r4=>cases r4;exact ⟨_,_,rfl,r1,r3⟩
theorem call_abs:CallR X (.builtin "abs") (fun xs H Q=>∃ i,xs=[.int i]/\Q (.int (if i < 0 then -i else i)) H):=by
 intro pins s σ H xs us Q I r h
 obtain ⟨i,rfl,q⟩:=h
 obtain ⟨u,rfl,t,rfl⟩:=vals1 r
 exact call_abs_int fun u tk=>⟨.int (if i < 0 then -i else i),H,I.tok _,⟨_,rfl⟩,q⟩
theorem call_max2 (hc:X.calm=true):CallR X (.builtin "max") (fun xs H Q=>∃ i j,xs=[.int i,.int j]/\Q (.int (if j > i then j else i)) H):=by
 intro pins s σ H xs us Q I r h
 obtain ⟨i,j,rfl,q⟩:=h
 obtain ⟨u,w',rfl,⟨t,rfl⟩,⟨t',rfl⟩⟩:=vals2 r
 refine max_two_ints (I.ok.hd hc) fun h' tk k=>⟨_,H,I.kept k,?_,q⟩
 by_cases hj:j > i
 ·rw [if_pos hj,if_pos hj];exact ⟨_,rfl⟩
 ·rw [if_neg hj,if_neg hj];exact ⟨_,rfl⟩
theorem call_min2 (hc:X.calm=true):CallR X (.builtin "min") (fun xs H Q=>∃ i j,xs=[.int i,.int j]/\Q (.int (if j < i then j else i)) H):=by
 intro pins s σ H xs us Q I r h
 obtain ⟨i,j,rfl,q⟩:=h
 obtain ⟨u,w',rfl,⟨t,rfl⟩,⟨t',rfl⟩⟩:=vals2 r
 refine min_two_ints (I.ok.hd hc) fun h' tk k=>⟨_,H,I.kept k,?_,q⟩
 by_cases hj:j < i
 ·rw [if_pos hj,if_pos hj];exact ⟨_,rfl⟩
 ·rw [if_neg hj,if_neg hj];exact ⟨_,rfl⟩
end
structure ObjM (h:Heap) (x dx C:Addr) (mA:Str->Option Value):Prop where
 obj:h.get? x=some (PySem.W.instObj C dx)
 ns:h.Ns1 dx mA
 ne:dx≠x
theorem lookIn_ns {h:Heap} {dx:Addr} {mA:Str->Option Value} (n:h.Ns1 dx mA):∃ od,h.get? dx=some od/\∀ name,PySem.W.lookIn name od=some (mA name):=by
 obtain ⟨o,es,ep,ho,hd,hk,_,hm⟩:=n
 refine ⟨o,ho,fun name=>?_⟩
 have e:=hm name
 unfold nsFind findBy at e
 rw [<- Array.find?_toList] at e
 unfold PySem.W.lookIn
 rw [hd]
 dsimp only
 split
 ·rename_i y q
  rw [q] at e
  exact congrArg some e
 ·rename_i q
  rw [q] at e
  have a:es.toList.any (·.refKey)=false:=by
   rw [List.any_eq_false]
   intro y hy
   obtain ⟨z,t,hkey⟩:=hk y (Array.mem_toList_iff.mp hy)
   simp [DictEntry.refKey,hkey]
  have a':¬ es.toList.any (·.refKey)=true:=by rw [a];exact Bool.false_ne_true
  rw [if_neg a']
  exact congrArg some e
theorem ObjM.look {h:Heap} {x dx C:Addr} {mA:Str->Option Value} (I:ObjM h x dx C mA):∃ od,PySem.W.InstAt h x (PySem.W.instObj C dx) C (some od)/\∀ name,PySem.W.lookIn name od=some (mA name) :=
 let ⟨od,ho,hl⟩:=lookIn_ns I.ns
 ⟨od,⟨I.obj,rfl,rfl,ho⟩,hl⟩
section
variable {prog:Program} {w:World} {A:Around} {E:Value->Shared->Prop} {s:Shared} {K:PySem.W.Frag} {x dx C f:Addr} {mA:Str->Option Value} {name:Str} {v:Value}
theorem get_map {expr:Bool} {Q:Value->Shared->Prop} (X:K.In s.heap) (I:ObjM s.heap x dx C mA) (hg:PySem.W.plainGet K C name=true) (hh:PySem.W.hasDictIn K C=true)
  (ha:W.findIn K (.ref C) name=some none) (hv:mA name=some v) (hv':W.handedIn v=true) (h:Q v { s with toks:=s.toks+1 }) :
  wpAny (model prog w) A (getAttr (.ref x) name expr) Q E s:=by
 obtain ⟨od,J,hl⟩:=I.look
 exact PySem.W.get_value X J (PySem.W.plainGet_of hg).1 (PySem.W.findObj_own hh ha rfl (by rw [hl,hv])) hv' h
theorem get_meth {pl:Sem Bool} {Q:Value × List Value->Shared->Prop} (X:K.In s.heap) (I:ObjM s.heap x dx C mA) (hg:PySem.W.plainGet K C name=true)
  (hf:W.findIn K (.ref C) name=some (some (.ref f))) (ht:W.isFn K (.ref f)=true) (hv:mA name=none) (h:Q (.ref f,[.ref x]) s) :
  wpAny (model prog w) A (getMethod (.ref x) name pl) Q E s:=by
 obtain ⟨od,J,hl⟩:=I.look
 exact PySem.W.method_fn X J (PySem.W.plainGet_of hg).1 (PySem.W.plainGet_of hg).2 hf (beq_iff_eq.mp ht) (by show (PySem.W.lookIn name od).map (·.isSome)=some false;rw [hl,hv];rfl) h
theorem set_map {ns:List Str} {Q:Unit->Shared->Prop} (X:K.In s.heap) (I:ObjM s.heap x dx C mA)
  (hs:W.findIn K (.ref C) "__setattr__" = some (some (.builtin "object.__setattr__"))) (hp:W.plainOver K C=true) (ht:W.takerIn K C name=some none) (hh:W.hasDictIn K C=true)
  (hw:PySem.Within mA ns) (hsz:ns.length<=sizeLine)
  (h:∀ h',ObjM h' x dx C (fun y=>if y=name then some v else mA y)->Heap.SameBut dx s.heap h'->Q () { s with heap:=h',toks:=s.toks+2 }) :
  wpAny (model prog w) A (setAttr (.ref x) name v) Q E s:=by
 obtain ⟨od,J,hl⟩:=I.look
 refine PySem.W.set_plain X J hs (PySem.W.osa_open (s:={ s with toks:=s.toks+1 }) (r:=none) X J hp ht fun b=>?_)
 obtain ⟨cd,hc,hd'⟩:=PySem.W.any_some hh
 have hx:s.heap.get? x=some ⟨.ref C,some dx,.plain,#[]⟩:=I.obj
 refine wpAny_bind (wpAny_pure (wpAny_bind (wpAny_bind (wpAny_loadPart hx (wpAny_bind (PySem.W.Looks.here (s:={ s with toks:=s.toks+1 }) (PySem.W.looks_clsIn X hc) ?_))))))
 rw [hd']
 refine wpAny_pure (a:=some dx) (wpAny_bind (wpAny_pure (wpAny_bind ?_)))
 refine wpAny_nsSet1 (s:={ s with toks:=s.toks+1 }) I.ns fun h' hn2 hs2=>?_
 obtain ⟨oD,esD,epD,hoD,hdD,hcD⟩:=hn2.count (PySem.Within.cons name v hw)
 refine wpAny_bind (wpAny_lookBehind hoD (by rw [hdD];exact pastItsLine_dict (Nat.le_trans hcD (by rw [List.length_cons];omega))) ?_)
 exact wpAny_pure (h _ ⟨(hs2.2 _ (Ne.symm I.ne)).trans I.obj,hn2,I.ne⟩ hs2)
theorem make_map {R:Result->Shared->Prop} {vs:List Value} {kw:List (Str × Value)} (X:K.In s.heap) (hm:PySem.W.makesIn K C=true)
  (hi:W.findIn K (.ref C) "__init__" = some (some (.ref f))) (hf:W.typeIn K (.ref f)=some (.type "function"))
  (h:codeAny (model prog w) (A.under (.builtin "type.__call__" ⟨.ref C::vs,kw⟩)) (.call (.ref f) ⟨.ref (s.heap.objs.size+1)::vs,kw⟩) (PySem.W.InitBack (s.heap.objs.size+1) R)
   { s with heap:=(s.heap.push PySem.W.emptyDict).push (PySem.W.instObj C s.heap.objs.size) }) :
  codeAny (model prog w) A (.call (.ref C) ⟨vs,kw⟩) R s:=by
 obtain ⟨hh,g,d,t,os⟩:=s
 exact PySem.W.make_core (PySem.W.makes_of X hm) (PySem.W.looks_findIn X hi) (fun self=>PySem.W.bind_fn X self hf) (.inl rfl) h
end
def putF (f:Str) (v:V):List (Str × V)->List (Str × V)
 | []=>[(f,v)]
 | (g,x)::r=>if g=f then (g,v)::r else (g,x)::putF f v r
theorem lookup_putF (f g:Str) (v:V):∀ fs:List (Str × V),(putF f v fs).lookup g=if g=f then some v else fs.lookup g
 | []=>by
  show List.lookup g [(f,v)]=_
  by_cases h:g=f
  ·have hb:(g == f)=true:=beq_iff_eq.mpr h
   simp only [List.lookup,hb,if_pos h]
  ·have hb:(g == f)=false:=beq_eq_false_iff_ne.mpr h
   simp only [List.lookup,hb,if_neg h]
 | (k,x)::r=>by
  have ih:=lookup_putF f g v r
  rw [show putF f v ((k,x)::r)=(if k=f then (k,v)::r else (k,x)::putF f v r) from rfl]
  by_cases hk:k=f
  ·rw [if_pos hk]
   by_cases h:g=k
   ·have hb:(g == k)=true:=beq_iff_eq.mpr h
    simp only [List.lookup,hb,if_pos (h.trans hk)]
   ·have hb:(g == k)=false:=beq_eq_false_iff_ne.mpr h
    simp only [List.lookup,hb,if_neg (fun e:g=f=>h (e.trans hk.symm))]
  ·rw [if_neg hk]
   by_cases h:g=k
   ·have hb:(g == k)=true:=beq_iff_eq.mpr h
    simp only [List.lookup,hb,if_neg (fun e:g=f=>hk (h.symm.trans e))]
   ·have hb:(g == k)=false:=beq_eq_false_iff_ne.mpr h
    simp only [List.lookup,hb]
    exact ih
theorem keys_putF (f:Str) (v:V):∀ fs:List (Str × V),f∈(putF f v fs).map (·.1)/\∀ g,g∈fs.map (·.1)->g∈(putF f v fs).map (·.1)
 | []=>⟨by simp [putF],fun g h=>by simp at h⟩
 | (k,x)::r=>by
  obtain ⟨i1,i2⟩:=keys_putF f v r
  rw [show putF f v ((k,x)::r)=(if k=f then (k,v)::r else (k,x)::putF f v r) from rfl]
  by_cases hk:k=f
  ·rw [if_pos hk]
   subst hk
   exact ⟨by simp,fun g h=>by simpa using h⟩
  ·rw [if_neg hk]
   refine ⟨?_,fun g h=>?_⟩
   ·rw [List.map_cons]
    exact List.mem_cons_of_mem _ i1
   ·rw [List.map_cons] at h ⊢
    rcases List.mem_cons.mp h with e | e
    ·exact List.mem_cons.mpr (.inl e)
    ·exact List.mem_cons_of_mem _ (i2 g e)
theorem length_putF (f:Str) (v:V):∀ fs:List (Str × V),(putF f v fs).length<=fs.length+1
 | []=>by simp [putF]
 | (k,x)::r=>by
  have ih:=length_putF f v r
  rw [show putF f v ((k,x)::r)=(if k=f then (k,v)::r else (k,x)::putF f v r) from rfl]
  by_cases hk:k=f
  ·rw [if_pos hk,List.length_cons,List.length_cons];omega
  ·rw [if_neg hk,List.length_cons,List.length_cons];omega
theorem RelO.some_of {v:V} {o:Option Value} (r:RelO (some v) o):∃ u,o=some u/\RelV v u:=by
 cases o with
 | none=>exact (show False from r).elim
 | some u=>exact ⟨u,rfl,r⟩
theorem RelO.none_of {o:Option Value} (r:RelO none o):o=none:=by
 cases o with
 | none=>rfl
 | some u=>exact (show False from r).elim
theorem handed_of {v:V} {u:Value} (r:RelV v u):PySem.W.handedIn u=true:=by
 cases v with
 | non=>cases (show u=Value.none from r);rfl
 | bl b=>cases (show u=Value.bool b from r);rfl
 | int i=>obtain ⟨t,e⟩:=(show ∃ t,u=Value.int i t from r);cases e;rfl
 | str x=>obtain ⟨t,e⟩:=(show ∃ t,u=Value.str x t from r);cases e;rfl
 | byt b=>obtain ⟨t,e⟩:=(show ∃ t,u=Value.bytes b t from r);cases e;rfl
 | flt b=>obtain ⟨t,e⟩:=(show ∃ t,u=Value.float b t from r);cases e;rfl
 | ref a=>cases (show u=Value.ref a from r);rfl
 | ty n=>cases (show u=Value.type n from r);rfl
section
variable {P:Program} {w:World} {H H':Hp} {h h':Heap} {a C dx:Addr} {fs fs':List (Str × V)}
theorem ins_get (hok:HOk P w H h) (e:H a=some (.ins C dx fs)):∃ mA,ObjM h a dx C mA/\(∀ f,RelO (fs.lookup f) (mA f))/\PySem.Within mA (fs.map (·.1))/\fs.length<=1000/\H dx=some (.own a):=by
 obtain ⟨d,z,ne,ob,mA,n,r,q⟩:=(show ObjOk P w H h a (.ins C dx fs) from hok a _ e)
 exact ⟨mA,⟨ob,n,ne⟩,r,q,z,d⟩
end
structure Cls (K:PySem.W.Frag) (C:Addr):Prop where
 pg:PySem.W.plainGet K C Str.empty=true
 hd:PySem.W.hasDictIn K C=true
 po:PySem.W.plainOver K C=true
 sa:PySem.W.findIn K (.ref C) "__setattr__" = some (some (.builtin "object.__setattr__"))
theorem Cls.get {K:PySem.W.Frag} {C:Addr} (c:Cls K C) (f:Str):PySem.W.plainGet K C f=true:=c.pg
def NoAttr (K:PySem.W.Frag) (C:Addr) (f:Str):Prop:=PySem.W.findIn K (.ref C) f=some none
theorem NoAttr.taker {K:PySem.W.Frag} {C:Addr} {f:Str} (n:NoAttr K C f):PySem.W.takerIn K C f=some none:=by
 unfold PySem.W.takerIn
 rw [show PySem.W.findIn K (.ref C) f=some none from n]
 rfl
structure Meth (K:PySem.W.Frag) (C:Addr) (m:Str) (f:Addr):Prop where
 at_:PySem.W.findIn K (.ref C) m=some (some (.ref f))
 fn:PySem.W.isFn K (.ref f)=true
 kp:PySem.W.keepIn K (.ref f)=true
section
variable {X:Cx} {pins:List (Addr × Obj)} {σ:St} {H:Hp} {s:Shared} {a C dx:Addr} {fs:List (Str × V)} {f:Str} {v:V} {A:Around} {E:Value->Shared->Prop}
theorem getattr_ok {b:Bool} {Q:Value->Shared->Prop} (I:Inv X pins σ H s) (e:H a=some (.ins C dx fs)) (c:Cls X.K C) (n:NoAttr X.K C f) (l:fs.lookup f=some v)
  (h:∀ u s',Inv X pins σ H s'->RelV v u->Q u s'):wpAny (model X.prog X.w) A (getAttr (.ref a) f b) Q E s:=by
 obtain ⟨mA,O,r,_,_,_⟩:=ins_get I.hok e
 obtain ⟨u,hu,ru⟩:=RelO.some_of (v:=v) (o:=mA f) (by rw [<- l];exact r f)
 exact get_map I.kIn O (c.get f) c.hd n hu (handed_of ru) (h u _ (I.tok _) ru)
theorem getmeth_ok {m:Str} {g:Addr} {pl:Sem Bool} {Q:Value × List Value->Shared->Prop} (I:Inv X pins σ H s) (e:H a=some (.ins C dx fs)) (c:Cls X.K C) (k:Meth X.K C m g) (l:fs.lookup m=none)
  (h:Q (.ref g,[.ref a]) s):wpAny (model X.prog X.w) A (getMethod (.ref a) m pl) Q E s:=by
 obtain ⟨mA,O,r,_,_,_⟩:=ins_get I.hok e
 have hn:mA m=none:=RelO.none_of (by rw [<- l];exact r m)
 exact get_meth I.kIn O (c.get m) k.at_ k.fn hn h
theorem setattr_ok {y:V} {u:Value} {Q:Unit->Shared->Prop} (I:Inv X pins σ H s) (e:H a=some (.ins C dx fs)) (c:Cls X.K C) (n:NoAttr X.K C f) (hl:fs.length < 1000) (ry:RelV y u)
  (h:∀ s',Inv X pins σ (upd H a (.ins C dx (putF f y fs))) s'->Q () s'):wpAny (model X.prog X.w) A (setAttr (.ref a) f u) Q E s:=by
 obtain ⟨mA,O,r,wi,_,ho⟩:=ins_get I.hok e
 have hz:(fs.map (·.1)).length<=sizeLine:=by rw [List.length_map,sizeLine_eq];omega
 refine set_map I.kIn O c.sa c.po n.taker c.hd wi hz fun h' O' sb=>h _ ?_
 have hd:∃ o,h'.get? dx=some o:=let ⟨o,_,_,e',_⟩:=O'.ns;⟨o,e'⟩
 refine I.write (x:=a) (e:=dx) (by rw [e];exact True.intro) (.inr ho) (fun b q hb z=>(sb.2 b hb).trans z) hd ?_
 refine ⟨by rw [upd_ne O.ne];exact ho,?_,O.ne,O'.obj,_,O'.ns,fun g=>?_,fun g hg=>?_⟩
 ·have:=length_putF f y fs;omega
 ·show RelO ((putF f y fs).lookup g) (if g=f then some u else mA g)
  rw [lookup_putF]
  by_cases q:g=f
  ·rw [if_pos q,if_pos q];exact ry
  ·rw [if_neg q,if_neg q];exact r g
 ·by_cases q:g=f
  ·rw [q];exact (keys_putF f y fs).1
  ·refine (keys_putF f y fs).2 g (wi g fun z=>hg ?_)
   show (if g=f then some u else mA g)=none
   rw [if_neg q];exact z
theorem Inv.made (I:Inv X pins σ H s):Inv X pins σ (upd (upd H s.heap.objs.size (.own (s.heap.objs.size+1))) (s.heap.objs.size+1) (.ins C s.heap.objs.size []))
  { s with heap:=(s.heap.push PySem.W.emptyDict).push (PySem.W.instObj C s.heap.objs.size) }:=by
 have e1:(s.heap.push PySem.W.emptyDict).get? s.heap.objs.size=some PySem.W.emptyDict:=Heap.get?_push_size s.heap rfl
 have e2:((s.heap.push PySem.W.emptyDict).push (PySem.W.instObj C s.heap.objs.size)).get? (s.heap.objs.size+1)=some (PySem.W.instObj C s.heap.objs.size):=by
  have:=Heap.get?_push_size (s.heap.push PySem.W.emptyDict) (o:=PySem.W.instObj C s.heap.objs.size) rfl
  rwa [Heap.size_push] at this
 have e3:(s.heap.push PySem.W.emptyDict).Ns s.heap.objs.size (fun _=>none):=⟨PySem.W.emptyDict,#[],_,e1,rfl,(fun e he=>absurd he (by simp)),fun _=>rfl⟩
 have I1:=I.laid (a:=s.heap.objs.size) (o:=.own (s.heap.objs.size+1)) (h':=s.heap.push PySem.W.emptyDict) (t':=s.toks) (fun b u q=>Heap.get?_push_of_some _ q) (Nat.le_refl _) ⟨_,e1⟩
 refine I1.laid (a:=s.heap.objs.size+1) (o:=.ins C s.heap.objs.size []) (t':=s.toks) (fun b u q=>Heap.get?_push_of_some _ q) (Nat.le_of_eq (Heap.size_push _ _)) ?_
 have ne:s.heap.objs.size≠s.heap.objs.size+1:=Nat.ne_of_lt (Nat.lt_succ_self _)
 refine ⟨by rw [upd_ne ne,upd_same],Nat.zero_le _,ne,e2,fun _=>none,(Heap.Ns1.of_empty e3).at fun o q=>Heap.get?_push_of_some _ q,fun _=>True.intro,fun y hy=>absurd rfl hy⟩
theorem attr_of {prog:Program} {w:World} {env:Env} {e:Expr} {f:Str} {pos:Pos} {s:Shared} {Q:Value->Shared->Prop} (hb:attributeBase e f env (eval e env)=eval e env)
  (h:wpAny (model prog w) A (eval e env) (fun o s₁=>wpAny (model prog w) A (getAttr o f true) Q E s₁) E s):wpAny (model prog w) A (eval (.Attribute e f pos) env) Q E s :=
 Attribute_any_ h (by rw [arm_eval_Attribute,hb])
end
def tFld (K:PySem.W.Frag) (ta:TE) (f:Str):TE:=fun σ H Q=>ta σ H fun x H1=>∃ a C dx fs v,x=.ref a/\H1 a=some (.ins C dx fs)/\Cls K C/\NoAttr K C f/\fs.lookup f=some v/\Q v H1
def sFld (K:PySem.W.Frag) (ta tv:TE) (f:Str):TS:=fun D σ H=>tv σ H fun y H1=>ta σ H1 fun x H2=>∃ a C dx fs,x=.ref a/\H2 a=some (.ins C dx fs)/\Cls K C/\NoAttr K C f/\fs.length < 1000 /\
 D.nx σ (upd H2 a (.ins C dx (putF f y fs)))
section
variable {X:Cx} {o e value:Expr} {f:Str} {pos pos' tpos:Pos} {ta tv:TE}
theorem pe_fld (he:PE X e ta) (hb:attributeBase e f X.env (eval e X.env)=eval e X.env):PE X (.Attribute e f pos) (tFld X.K ta f):=by
 intro pins s σ H Q I h
 refine attr_of hb (thn (he pins s σ H _ I h) fun u s1 ⟨x,H1,I1,rx,a,C,dx,fs,v,ex,ea,c,n,l,q⟩=>?_)
 subst ex
 obtain rfl:u=Value.ref a:=rx
 exact getattr_ok I1 ea c n l fun u' s2 I2 ru=>⟨v,H1,I2,ru,q⟩
theorem ps_fld (ha:PE X o ta) (hv:PE X value tv) (hs:swapsWith value (some (.Attribute o f pos')) pos.line X.env=pure false):PS X (.Assign [.Attribute o f pos'] value pos) (sFld X.K ta tv f):=by
 intro pins s σ H D I h
 refine plainObj_wpAny_Assign_Attribute (thn (hv pins s σ H _ I h) fun u s1 ⟨y,H1,I1,ry,q⟩=>thn (ha pins s1 σ H1 _ I1 q) fun ov s2 ⟨x,H2,I2,rx,a,C,dx,fs,ex,ea,c,n,l,q2⟩=>?_) hs
 subst ex
 obtain rfl:ov=Value.ref a:=rx
 exact setattr_ok I2 ea c n l ry fun s3 I3=>⟨σ,_,I3,q2⟩
end
section
variable {X:Cx} {pins:List (Addr × Obj)} {σ:St} {H:Hp} {s:Shared} {A:Around} {E:Value->Shared->Prop} {Q:Value->Shared->Prop} {c:Value} {b:Bool}
inductive TyOf (K:PySem.W.Frag) (H:Hp):V->Value->Prop where
 | non:TyOf K H .non (.type "NoneType")
 | bl (x:Bool):TyOf K H (.bl x) (.type "bool")
 | int (i:Int):TyOf K H (.int i) (.type "int")
 | str (x:Str):TyOf K H (.str x) (.type "str")
 | flt (x:UInt64):TyOf K H (.flt x) (.type "float")
 | lst {a:Addr} {xs:List V} (e:H a=some (.lst xs)):TyOf K H (.ref a) (.type "list")
 | frz {a:Addr} {o:Obj} {xs:List V} (e:H a=some (.frz o (.lst xs))):TyOf K H (.ref a) (.type "list")
 | tup {a:Addr} {xs:List V} (e:H a=some (.tup xs)):TyOf K H (.ref a) (.type "tuple")
 | dK {a:Addr} {kvs:List (Key × V)} (e:H a=some (.dK kvs)):TyOf K H (.ref a) (.type "dict")
 | dT {a:Addr} {kvs:List (List Key × V)} (e:H a=some (.dT kvs)):TyOf K H (.ref a) (.type "dict")
 | ins {a C dx:Addr} {fs:List (Str × V)} (e:H a=some (.ins C dx fs)) (cl:Cls K C) (ha:PySem.W.findIn K (.ref C) "__class__" = some (some (.builtin "object.__class__")))
   (hn:PySem.W.specialIn K (.builtin "object.__class__") "__get__" = some (some (.builtin "getset_descriptor.__get__"))) (htk:PySem.W.takesIn K (.builtin "object.__class__")=some true)
   (hm:PySem.W.mroIn K C (.type "object")=some true):TyOf K H (.ref a) (.ref C)
theorem isinst_ok {x:V} {u t:Value} (I:Inv X pins σ H s) (rx:RelV x u) (ty:TyOf X.K H x t) (e:PySem.W.kitOne X.K t c=some b) (h:∀ tk,Q (.bool b) { s with toks:=tk }) :
  wpAny (model X.prog X.w) A (call (.builtin "isinstance") [u,c]) Q E s:=by
 cases ty with
 | non=>cases (show u=Value.none from rx);exact PySem.W.kia_one PySem.W.kitx_none I.kIn True.intro e (fun z=>nomatch z) h
 | bl y=>cases (show u=Value.bool y from rx);exact PySem.W.kia_one PySem.W.kitx_bool I.kIn True.intro e (fun z=>nomatch z) h
 | int i=>obtain ⟨t,q⟩:=(show ∃ t,u=Value.int i t from rx);cases q;exact PySem.W.kia_one PySem.W.kitx_int I.kIn True.intro e (fun z=>nomatch z) h
 | str y=>obtain ⟨t,q⟩:=(show ∃ t,u=Value.str y t from rx);cases q;exact PySem.W.kia_one PySem.W.kitx_str I.kIn True.intro e (fun z=>nomatch z) h
 | flt y=>obtain ⟨t,q⟩:=(show ∃ t,u=Value.float y t from rx);cases q;exact PySem.W.kia_one PySem.W.kitx_float I.kIn True.intro e (fun z=>nomatch z) h
 | @lst a xs ea =>
  cases (show u=Value.ref a from rx)
  obtain ⟨_,_,n,_,h1⟩:=(show ObjOk X.prog X.w H s.heap a (.lst xs) from I.hok a _ ea)
  exact PySem.W.kia_one PySem.W.kitx_list I.kIn ⟨_,h1,rfl⟩ e (fun z=>nomatch z) h
 | @frz a ob xs ea =>
  cases (show u=Value.ref a from rx)
  obtain ⟨_,_,_,n,_,h1⟩:=(show ObjOk X.prog X.w H s.heap a (.frz ob (.lst xs)) from I.hok a _ ea)
  exact PySem.W.kia_one PySem.W.kitx_list I.kIn ⟨_,h1,rfl⟩ e (fun z=>nomatch z) h
 | @tup a xs ea =>
  cases (show u=Value.ref a from rx)
  obtain ⟨_,_,_,p⟩:=(show ObjOk X.prog X.w H s.heap a (.tup xs) from I.hok a _ ea)
  obtain ⟨o,h1,h2,_⟩:=p
  exact PySem.W.kia_one PySem.W.kitx_tuple I.kIn ⟨o,h1,h2⟩ e (fun z=>nomatch z) h
 | @dK a kvs ea =>
  cases (show u=Value.ref a from rx)
  obtain ⟨_,_,vs,_,p⟩:=(show ObjOk X.prog X.w H s.heap a (.dK kvs) from I.hok a _ ea)
  obtain ⟨o,es,ep,h1,h2,_⟩:=p
  exact PySem.W.kia_one PySem.W.kitx_dict I.kIn ⟨o,h1,h2.1⟩ e (fun z=>nomatch z) h
 | @dT a kvs ea =>
  cases (show u=Value.ref a from rx)
  obtain ⟨_,_,xs,_,o,es,ep,h1,h2,_⟩:=(show ObjOk X.prog X.w H s.heap a (.dT kvs) from I.hok a _ ea)
  exact PySem.W.kia_one PySem.W.kitx_dict I.kIn ⟨o,h1,h2.1⟩ e (fun z=>nomatch z) h
 | @ins a C dx fs ea cl ha hn htk hm =>
  cases (show u=Value.ref a from rx)
  obtain ⟨mA,O,_⟩:=ins_get I.hok ea
  obtain ⟨od,J,_⟩:=O.look
  exact PySem.W.kia_one (PySem.W.kitx_own (cl.get _) cl.hd ha hn htk hm) I.kIn J e (fun z=>nomatch z) h
end
structure Room (k:Nat) (A:Around):Prop where
 hd:A.handled=none
 dp:A.depth+3 * k+5 < recursionLimit
 un:A.units+16 * k+200 < cLine
 gd:A.guards=some []
theorem Room.mono {j k:Nat} {A:Around} (r:Room k A) (h:j<=k):Room j A:=⟨r.hd,by have:=r.dp;omega,by have:=r.un;omega,r.gd⟩
theorem Room.deeper {k:Nat} {A:Around} (r:Room (k+1) A) (env:Env):Room k (A.deeper env) :=
 ⟨r.hd,by have:=r.dp;show A.depth+1+3 * k+5 < _;omega,by have:=r.un;show A.units+3+16 * k+200 < _;omega,r.gd⟩
theorem make_guards {A:Around} {C:Addr} {us:List Value} {kw:List (Str × Value)} (h:A.guards=some []):(A.under (.builtin "type.__call__" ⟨.ref C::us,kw⟩)).guards=some []:=by
 have e:(Code.builtin "type.__call__" ⟨.ref C::us,kw⟩).isGuard=false:=by first | rfl | simp [Code.isGuard,guardIds]
 have q:∀ c:Code,(A.under c).guards=pushGuards c.guards A.guards:=fun _=>rfl
 rw [q,h,Code.guards,e]
 rfl
theorem make_depth {A:Around} {C:Addr} {us:List Value} {kw:List (Str × Value)}:(A.under (.builtin "type.__call__" ⟨.ref C::us,kw⟩)).depth=A.depth+1:=by
 first | rfl | simp [Around.under,Code.weight,Code.isCreation,Code.isGuard,Code.isCaller,Code.frames,Code.isFrame,guardIds]
theorem make_units {A:Around} {C:Addr} {us:List Value} {kw:List (Str × Value)}:(A.under (.builtin "type.__call__" ⟨.ref C::us,kw⟩)).units=A.units+1:=by
 first | rfl | simp [Around.under,Code.cUnits,Code.frames,Code.isFrame]
theorem Room.make {k:Nat} {A:Around} (r:Room (k+1) A) (C:Addr) (us:List Value) (kw:List (Str × Value)):Room k (A.under (.builtin "type.__call__" ⟨.ref C::us,kw⟩)) :=
 ⟨r.hd,by have:=r.dp;rw [make_depth];omega,by have:=r.un;rw [make_units];omega,make_guards r.gd⟩
theorem Room.depth {k:Nat} {A:Around} (r:Room k A):A.depth < recursionLimit:=by have:=r.dp;omega
theorem Room.units {k:Nat} {A:Around} (r:Room k A):A.units+64 < cLine:=by have:=r.un;omega
def tNil:TA:=fun _ H Q=>Q [] H
def tCons (ta:TE) (tr:TA):TA:=fun σ H Q=>ta σ H fun x H1=>tr σ H1 fun xs H2=>Q (x::xs) H2
section
variable {X:Cx} {e:Expr} {es:List Expr} {te:TE} {t:TA} {pos:Pos}
theorem pa_nil:PA X [] tNil:=fun _ _ _ _ H Q I h=>Calls.spliced_nil ⟨[],H,I,.nil,h⟩
theorem pa_cons (ha:PE X e te) (hr:PA X es t) (hs:starEach (e::es) X.env=(false,eval e X.env)::starEach es X.env:=by rfl):PA X (e::es) (tCons te t):=by
 intro pos pins s σ H Q I h
 rw [hs]
 show wpAny _ _ (spliced ((false,eval e X.env)::backTo pos (starEach es X.env))) _ _ s
 refine Calls.spliced_cons (thn (ha pins s σ H _ I h) fun u s1 ⟨x,H1,I1,r1,q1⟩=>?_)
 exact thn (hr pos pins s1 σ H1 _ I1 q1) fun us s2 ⟨xs,H2,I2,r2,q2⟩=>⟨x::xs,H2,I2,.cons r1 r2,q2⟩
def tTup (t:TA):TE:=fun σ H Q=>t σ H fun xs H1=>xs.length<=sizeLine/\∀ p,H1 p=none->Q (.ref p) (upd H1 p (.tup xs))
def tLst (t:TA):TE:=fun σ H Q=>t σ H fun xs H1=>xs.length<=sizeLine/\∀ p,H1 p=none->Q (.ref p) (upd H1 p (.lst xs))
theorem pe_tup {x1} (h:PA X es t):PE X (.Tuple es x1 pos) (tTup t):=by
 intro pins s σ H Q I hq
 refine wpAny_Tuple_spliced (thn (h pos pins s σ H _ I hq) fun us s1 ⟨xs,H1,I1,r,z,q⟩=>⟨by rw [<- r.length];exact z,?_⟩)
 have hf:H1 s1.heap.objs.size=none:=I1.hok.fresh (Nat.le_refl _)
 refine ⟨.ref s1.heap.objs.size,upd H1 s1.heap.objs.size (.tup xs),I1.laid (t':=s1.toks) (fun b u e=>Heap.get?_push_of_some _ e) (Nat.le_refl _) ?_,rfl,q _ hf⟩
 exact ⟨z,us,r,⟨_,Heap.get?_push_size _ rfl,rfl,_,rfl⟩⟩
theorem pe_lst (h:PA X es t):PE X (.List es pos) (tLst t):=by
 intro pins s σ H Q I hq
 refine wpAny_List_spliced (thn (h pos pins s σ H _ I hq) fun us s1 ⟨xs,H1,I1,r,z,q⟩=>⟨by rw [<- r.length];exact z,?_⟩)
 have hf:H1 s1.heap.objs.size=none:=I1.hok.fresh (Nat.le_refl _)
 refine ⟨.ref s1.heap.objs.size,upd H1 s1.heap.objs.size (.lst xs),I1.laid (t':=s1.toks) (fun b u e=>Heap.get?_push_of_some _ e) (Nat.le_refl _) ?_,rfl,q _ hf⟩
 exact ⟨z,us,0,r,Heap.get?_push_size _ rfl⟩
end
abbrev Sp:=List V->Hp->VK->XK->Prop
abbrev CXT:=List Env->Hp->Shared->XK->Value->Shared->Prop
structure Env0 (P:Program) (w:World) (K:PySem.W.Frag) (mg:Str->Option Value) (base:Heap) (A:Around) (outer:List Env) (s:Shared) (H:Hp):Prop where
 frames:A.frames=some outer
 mod:Mod K mg base
 bs:∀ b o,base.get? b=some o->s.heap.get? b=some o/\H b=none
 bsz:base.objs.size<=s.heap.objs.size
 funs:s.heap.FunFrames base outer
 frf:∀ b∈frs outer,H b=none
 hok:HOk P w H s.heap
 bare:AllBare s.gens
def CE (outer:List Env) (P:Program) (w:World) (H:Hp) (s:Shared) (Q:VK) (u:Value) (s':Shared):Prop :=
 ∃ v H',s'.os=s.os/\AllBare s'.gens/\Un (frs outer) [] H H' s.heap s'.heap/\HOk P w H' s'.heap/\RelV v u/\Q v H'
def CR (CX:CXT) (outer:List Env) (P:Program) (w:World) (H:Hp) (s:Shared) (Q:VK) (E:XK) (r:Result) (s':Shared):Prop :=
 match r with
 | .ok (.ret u)=>CE outer P w H s Q u s'
 | .ok _=>False
 | .error e=>CX outer H s E e s'
structure FnOk (P:Program) (w:World) (K:PySem.W.Frag) (mg:Str->Option Value) (base:Heap) (CX:CXT) (k:Nat) (f:Addr) (fd:FuncData) (ps:List Str) (sp:Sp):Prop where
 len:∀ vs H Q E,sp vs H Q E->vs.length=ps.length
 run:∀ (A:Around) (outer:List Env) (s:Shared) (H:Hp) (args:Args) (us:List Value) (vs:List V) (Q:VK) (E:XK),Room k A->Env0 P w K mg base A outer s H->BindsTo s fd args (ps.zip us)->Vals vs us->sp vs H Q E ->
  codeAny (model P w) A (.call (.ref f) args) (CR CX outer P w H s Q E) s
theorem Env0.make {P:Program} {w:World} {K:PySem.W.Frag} {mg:Str->Option Value} {base:Heap} {A:Around} {outer:List Env} {s:Shared} {H:Hp} (e:Env0 P w K mg base A outer s H) (C:Addr) (us:List Value) (kw:List (Str × Value)) :
  Env0 P w K mg base (A.under (.builtin "type.__call__" ⟨.ref C::us,kw⟩)) outer s H:=⟨by first | exact e.frames | (simpa [Around.under,Code.envs,Code.isFrame,pushEnvs] using e.frames),e.mod,e.bs,e.bsz,e.funs,e.frf,e.hok,e.bare⟩
section
variable {X:Cx} {pins:List (Addr × Obj)} {σ:St} {H:Hp} {s s':Shared}
theorem Inv.env0 (I:Inv X pins σ H s):Env0 X.prog X.w X.K X.mg X.base X.A X.stack s H :=
 ⟨I.ok.frames,I.ok.mod,I.bs,Nat.le_trans I.ok.bsz I.sz,I.stack,I.stkFree,I.hok,I.bare⟩
theorem Inv.after {Q:VK} {u:Value} (I:Inv X pins σ H s) (h:CE X.stack X.prog X.w H s Q u s'):EP X pins σ Q u s':=by
 obtain ⟨v,H',os,bare,un,hok,r,q⟩:=h
 obtain ⟨hh,g,d,t,os'⟩:=s'
 obtain rfl:os'=s.os:=os
 exact ⟨v,H',I.call (h':=hh) (g':=g) (d':=d) (t':=t) (ch:=[]) un hok bare (fun b z=>absurd z (by simp)),r,q⟩
end
def tCall (sp:Sp) (dvs:List V) (E:XK) (t:TA):TE:=fun σ H Q=>t σ H fun vs H1=>sp (vs++dvs) H1 Q E
def tMeth (C:Addr) (m:Str) (sp:Sp) (dvs:List V) (E:XK) (ta:TE) (t:TA):TE:=fun σ H Q=>ta σ H fun x H1=>∃ a dx fs,x=.ref a/\H1 a=some (.ins C dx fs)/\fs.lookup m=none /\
 t σ H1 fun vs H2=>sp (x::(vs++dvs)) H2 Q E
def tMake (C:Addr) (sp:Sp) (dvs:List V) (E:XK) (t:TA):TE:=fun σ H Q=>t σ H fun vs H1=>∀ x dx,H1 x=none->H1 dx=none->dx≠x ->
 sp (.ref x::(vs++dvs)) (upd (upd H1 dx (.own x)) x (.ins C dx [])) (fun v H2=>v=.non/\Q (.ref x) H2) E
def Binds (K:PySem.W.Frag) (fd:FuncData) (ps:List Str) (ds:List Value):Prop :=
 ∀ (s:Shared) (us:List Value),K.In s.heap->(us++ds).length=ps.length->BindsTo s fd ⟨us,[]⟩ (ps.zip (us++ds))
theorem Binds.all {K:PySem.W.Frag} {fd:FuncData} {ps:List Str} (h:∀ us:List Value,us.length=ps.length->bindArgs fd ⟨us,[]⟩=pure (ps.zip us)):Binds K fd ps []:=fun s us _ hl=>by
 rw [List.append_nil] at hl ⊢
 exact .of_eq (h us hl)
def Passes (CX:CXT) (X:Cx) (E:XK):Prop:=∀ (pins:List (Addr × Obj)) (σ:St) (H:Hp) (s:Shared) (e:Value) (s':Shared),Inv X pins σ H s->CX X.stack H s E e s'->X.xe e s'
section
variable {X:Cx} {CX:CXT} {k:Nat} {f C:Addr} {fd:FuncData} {ps:List Str} {sp:Sp} {dvs:List V} {ds:List Value} {E:XK} {x m:Str} {p pos apos:Pos} {e o:Expr} {es:List Expr} {ta:TE} {t:TA}
theorem run_fn {pins:List (Addr × Obj)} {σ:St} {H:Hp} {s:Shared} {Q:VK} {us:List Value} {vs:List V} (F:FnOk X.prog X.w X.K X.mg X.base CX k f fd ps sp) (hr:Room k X.A) (hb:Binds X.K fd ps ds) (hd:Vals dvs ds) (hx:Passes CX X E)
  (I:Inv X pins σ H s) (r:Vals vs us) (h:sp (vs++dvs) H Q E):wpAny (model X.prog X.w) X.A (call (.ref f) us) (EP X pins σ Q) X.xe s:=by
 have r2:Vals (vs++dvs) (us++ds):=r.append hd
 have hl:(us++ds).length=ps.length:=by rw [<- r2.length];exact F.len _ _ _ _ h
 refine wpAny_call (codeAny_mono (F.run X.A X.stack s H ⟨us,[]⟩ (us++ds) (vs++dvs) Q E hr I.env0 (hb s us I.kIn hl) r2 h) fun r s' hq=>?_)
 cases r with
 | error e=>exact hx pins σ H s e s' I hq
 | ok fl =>
  cases fl with
  | ret u=>exact I.after hq
  | next=>exact False.elim hq
  | brk=>exact False.elim hq
  | cont=>exact False.elim hq
theorem pe_call (F:FnOk X.prog X.w X.K X.mg X.base CX k f fd ps sp) (hr:Room k X.A) (hg:Gl X x) (hm:X.mg x=some (.ref f)) (hk:PySem.W.keepIn X.K (.ref f)=true) (hb:Binds X.K fd ps ds) (hd:Vals dvs ds) (hx:Passes CX X E)
  (ha:PA X (e::es) t) (hdb:(x == ("__debug__" : Str))=false:=by decide) (he:starEach (e::es) X.env=(false,eval e X.env)::starEach es X.env:=by rfl) (hpl:(backTo pos (starEach es X.env)).any (·.1)=false:=by rfl) :
  PE X (.Call (.Name x p) (e::es) [] pos) (tCall sp dvs E t):=by
 intro pins s σ H Q I h
 refine wpAny_Call_Name_kw (ld_glob I hg hm ?_ hdb)
 refine PySem.W.callWith_K (h₀:=X.base) I.ok.mod.kin hk (thn (ha pos pins s σ H _ I h) fun us s1 ⟨vs,H1,I1,r,q⟩=>⟨I1.kIn,?_⟩) he hpl
 exact run_fn F hr hb hd hx I1 r q
theorem pe_meth0 {pl:Sem Bool} (he:PE X o ta) (c:Cls X.K C) (hm:Meth X.K C m f) (F:FnOk X.prog X.w X.K X.mg X.base CX k f fd ps sp) (hr:Room k X.A) (hb:Binds X.K fd ps ds) (hd:Vals dvs ds) (hx:Passes CX X E)
  (ht:eval (.Call (.Attribute o m apos) [] [] pos) X.env=(do
   let ov <- eval o X.env
   standAt apos.atName
   let (f,first) <- holding [ov] (getMethod ov m pl)
   callWith pos f first (backTo pos (starEach [] X.env)) (backToKw pos (keywordEach [] X.env))):=by rfl) :
  PE X (.Call (.Attribute o m apos) [] [] pos) (tMeth C m sp dvs E ta tNil):=by
 intro pins s σ H Q I h
 refine PySem.W.methodCall_KW (pl:=pl) (thn (he pins s σ H _ I h) fun u s1 ⟨x,H1,I1,rx,a,dx,fs,ex,ea,l,q⟩=>?_) ht
 subst ex
 obtain rfl:u=Value.ref a:=rx
 refine getmeth_ok I1 ea c hm l ?_
 exact PySem.W.callWith_K0 (first:=[.ref a]) I1.kIn hm.kp (run_fn (us:=[.ref a]) (vs:=[.ref a]) F hr hb hd hx I1 (.cons rfl .nil) q)
structure Mk (K:PySem.W.Frag) (C f:Addr):Prop where
 makes:PySem.W.makesIn K C=true
 init:PySem.W.findIn K (.ref C) "__init__" = some (some (.ref f))
 fn:PySem.W.isFn K (.ref f)=true
 kp:PySem.W.keepIn K (.ref C)=true
theorem run_make {pins:List (Addr × Obj)} {σ:St} {H:Hp} {s:Shared} {Q:VK} {us:List Value} {vs:List V} (M:Mk X.K C f) (F:FnOk X.prog X.w X.K X.mg X.base CX k f fd ps sp) (hr:Room (k+1) X.A) (hb:Binds X.K fd ps ds) (hd:Vals dvs ds)
  (hx:Passes CX X E) (I:Inv X pins σ H s) (r:Vals vs us)
  (h:∀ x dx,H x=none->H dx=none->dx≠x->sp (.ref x::(vs++dvs)) (upd (upd H dx (.own x)) x (.ins C dx [])) (fun v H2=>v=.non/\Q (.ref x) H2) E) :
  wpAny (model X.prog X.w) X.A (call (.ref C) us) (EP X pins σ Q) X.xe s:=by
 have hq:=h (s.heap.objs.size+1) s.heap.objs.size (I.hok.fresh (Nat.le_succ _)) (I.hok.fresh (Nat.le_refl _)) (Nat.ne_of_lt (Nat.lt_succ_self _))
 have I2:=Inv.made (C:=C) I
 have r2:Vals (V.ref (s.heap.objs.size+1)::(vs++dvs)) (Value.ref (s.heap.objs.size+1)::(us++ds)):=.cons rfl (r.append hd)
 have hl:(Value.ref (s.heap.objs.size+1)::us++ds).length=ps.length:=by
  have e:=r2.length
  rw [F.len _ _ _ _ hq] at e
  exact e.symm
 refine wpAny_call (make_map (f:=f) I.kIn M.makes M.init (beq_iff_eq.mp M.fn) (codeAny_mono (F.run _ X.stack _ _ ⟨Value.ref (s.heap.objs.size+1)::us,[]⟩ (Value.ref (s.heap.objs.size+1)::(us++ds)) _ _ E (hr.make C us [])
  (I2.env0.make C us []) (hb _ (Value.ref (s.heap.objs.size+1)::us) I2.kIn hl) r2 hq) fun r s' hq'=>?_))
 cases r with
 | error e=>exact hx pins σ _ _ e s' I2 hq'
 | ok fl =>
  cases fl with
  | ret u =>
   obtain ⟨v,H',I3,rv,ev,q3⟩:=I2.after hq'
   subst ev
   exact ⟨rv,⟨V.ref (s.heap.objs.size+1),H',I3,rfl,q3⟩⟩
  | next=>exact False.elim hq'
  | brk=>exact False.elim hq'
  | cont=>exact False.elim hq'
theorem pe_make (M:Mk X.K C f) (F:FnOk X.prog X.w X.K X.mg X.base CX k f fd ps sp) (hr:Room (k+1) X.A) (hg:Gl X x) (hm:X.mg x=some (.ref C)) (hb:Binds X.K fd ps ds) (hd:Vals dvs ds) (hx:Passes CX X E)
  (ha:PA X (e::es) t) (hdb:(x == ("__debug__" : Str))=false:=by decide) (he:starEach (e::es) X.env=(false,eval e X.env)::starEach es X.env:=by rfl) (hpl:(backTo pos (starEach es X.env)).any (·.1)=false:=by rfl) :
  PE X (.Call (.Name x p) (e::es) [] pos) (tMake C sp dvs E t):=by
 intro pins s σ H Q I h
 refine wpAny_Call_Name_kw (ld_glob I hg hm ?_ hdb)
 refine PySem.W.callWith_K (h₀:=X.base) I.ok.mod.kin M.kp (thn (ha pos pins s σ H _ I h) fun us s1 ⟨vs,H1,I1,r,q⟩=>⟨I1.kIn,?_⟩) he hpl
 exact run_make M F hr hb hd hx I1 r q
end
section
variable {X:Cx} {CX:CXT} {k:Nat} {f C:Addr} {fd:FuncData} {ps ks:List Str} {sp:Sp} {E:XK} {x m:Str} {p pos apos kpos:Pos} {e o:Expr} {es:List Expr} {kws:List Keyword} {te ta:TE} {t tk:TA} {nm:Option Str}
variable {g:List Value->List Value->List Value} {gV:List V->List V->List V}
end
structure FnScope (N P:List Str) (sc:Scope):Prop where
 kind:sc.kind=.function
 co:sc.isCoroutine=false
 gen:sc.isGenerator=false
 nd:N.Nodup
 pre:N.take P.length=P
 par:∀ x∈P,sc.names.lookup x=some .local\/sc.names.lookup x=some .cell
 nofree:∀ y∈sc.names,y.2≠.free
theorem bindL_out {kindOf:Str->Option NameKind} {x:Str}:∀ {binds:List (Str × Value)} {m:Str->Option Value},(∀ v,(x,v) ∉ binds)->bindL kindOf binds m x=m x
 | [],_,_=>rfl
 | (n,v)::r,m,h=>by
  unfold bindL
  rw [bindL_out fun w hw=>h w (List.mem_cons_of_mem _ hw)]
  split
  ·have:x≠n:=by rintro rfl;exact h v List.mem_cons_self
   simp [this]
  ·rfl
theorem bindC_out {kindOf:Str->Option NameKind} {x:Str}:∀ {binds:List (Str × Value)} {m:Str->Option Value},(∀ v,(x,v) ∉ binds)->bindC kindOf binds m x=m x
 | [],_,_=>rfl
 | (n,v)::r,m,h=>by
  unfold bindC
  rw [bindC_out fun w hw=>h w (List.mem_cons_of_mem _ hw)]
  split
  ·rfl
  ·have:x≠n:=by rintro rfl;exact h v List.mem_cons_self
   simp [this]
theorem bindL_get {kindOf:Str->Option NameKind} {x:Str} {v:Value}:∀ {P:List Str} {vs:List Value} {i:Nat} {m:Str->Option Value},P.Nodup->P[i]?=some x->vs[i]?=some v->kindOf x=some .local ->
  bindL kindOf (P.zip vs) m x=some v
 | [],_,_,_,_,h,_,_=>by simp at h
 | _::_,[],_,_,_,_,h,_=>by simp at h
 | p::P,w::vs,0,m,nd,h1,h2,hk=>by
  simp at h1 h2;subst h1;subst h2
  show bindL kindOf ((p,w)::P.zip vs) m p=_
  unfold bindL
  rw [bindL_out fun v hv=>(List.nodup_cons.mp nd).1 (List.of_mem_zip hv).1,if_pos hk]
  simp
 | p::P,w::vs,i+1,m,nd,h1,h2,hk=>by
  show bindL kindOf ((p,w)::P.zip vs) m x=_
  unfold bindL
  exact bindL_get (i:=i) (List.nodup_cons.mp nd).2 (by simpa using h1) (by simpa using h2) hk
theorem bindC_get {kindOf:Str->Option NameKind} {x:Str} {v:Value}:∀ {P:List Str} {vs:List Value} {i:Nat} {m:Str->Option Value},P.Nodup->P[i]?=some x->vs[i]?=some v->kindOf x≠some .local ->
  bindC kindOf (P.zip vs) m x=some v
 | [],_,_,_,_,h,_,_=>by simp at h
 | _::_,[],_,_,_,_,h,_=>by simp at h
 | p::P,w::vs,0,m,nd,h1,h2,hk=>by
  simp at h1 h2;subst h1;subst h2
  show bindC kindOf ((p,w)::P.zip vs) m p=_
  unfold bindC
  rw [bindC_out fun v hv=>(List.nodup_cons.mp nd).1 (List.of_mem_zip hv).1,if_neg hk]
  simp
 | p::P,w::vs,i+1,m,nd,h1,h2,hk=>by
  show bindC kindOf ((p,w)::P.zip vs) m x=_
  unfold bindC
  exact bindC_get (i:=i) (List.nodup_cons.mp nd).2 (by simpa using h1) (by simpa using h2) hk
def start (N:List Str) (vs:List V):St:=vs.map some++List.replicate (N.length - vs.length) none
def cxOf (CX:CXT) (P:Program) (w:World) (K:PySem.W.Frag) (mg:Str->Option Value) (base:Heap) (N:List Str) (qual:Str) (scope:Scope) (f:Addr) (cd:Value) (A:Around) (outer:List Env) (s:Shared) (H:Hp) (E:XK):Cx where
 prog:=P
 w:=w
 K:=K
 mg:=mg
 base:=base
 A:=A.deeper (envOfC qual scope s.heap.objs.size f cd)
 N:=N
 s₀:=s
 H₀:=H
 env:=envOfC qual scope s.heap.objs.size f cd
 outer:=outer
 stack:=envOfC qual scope s.heap.objs.size f cd::outer
 ex:=[]
 calm:=true
 fn:=fun _=>true
 pn:=[]
 xe:=fun e s'=>wpAny (model P w) (A.deeper (envOfC qual scope s.heap.objs.size f cd)) (leaving (envOfC qual scope s.heap.objs.size f cd) e) (fun _ s''=>CX outer H s E e s'') (fun e' s''=>CX outer H s E e' s'') s'
theorem cell_has {sc:Scope} {n:Nat} {x:Str} (h:sc.names.lookup x=some .cell):∃ c,(cellsFrom n sc.names []).lookup x=some c:=by
 have q:=PySem.W.cellsFrom_some sc.names n [] (.inl h)
 exact Option.isSome_iff_exists.mp q
theorem inv_start {CX:CXT} {P:Program} {w:World} {K:PySem.W.Frag} {mg:Str->Option Value} {base:Heap} {N ps:List Str} {qual:Str} {scope:Scope} {f:Addr} {cd:Value} {A:Around} {outer:List Env} {s s1:Shared} {H:Hp} {E:XK} {us:List Value} {vs:List V}
  (S:FnScope N ps scope) (hd:A.handled=none) (e0:Env0 P w K mg base A outer s H) (hl:vs.length=ps.length) (r:Vals vs us)
  (x:InCallC s s.heap.objs.size (bindL (envOfC qual scope s.heap.objs.size f cd).kindOf (ps.zip us) fun _=>none) (cellsFrom (s.heap.objs.size+1) scope.names []) (bindC (envOfC qual scope s.heap.objs.size f cd).kindOf (ps.zip us) fun _=>none) s1) :
  Inv (cxOf CX P w K mg base N qual scope f cd A outer s H E) [] (start N vs) H s1:=by
 have hpl:ps.length<=N.length:=by have:=congrArg List.length S.pre;rw [List.length_take] at this;omega
 obtain ⟨h1,tk,rfl,hk⟩:=x.done
 have noA:∀ b:Addr,b ∉ (cxOf CX P w K mg base N qual scope f cd A outer s H E).ex:=fun b z=>absurd (show b∈([]:List Addr) from z) (by simp)
 refine ⟨⟨e0.mod,S.kind,rfl,rfl,Nat.le_refl _,fun y z c h1 h2=>?_,fun y hy=>?_,fun y c _ h=>?_,fun _=>hd,Around.frames_deeper e0.frames,.inr ⟨rfl,rfl⟩,fun b z=>absurd z (noA b),e0.bs,e0.bsz,fun b _ _=>noA b,fun b z=>absurd z (noA b),e0.funs,e0.frf⟩,
  rfl,e0.bare,Un.kept hk,⟨_,x.toInCall.ns,fun i y v h1 h2 h3=>?_⟩,fun y c h=>⟨_,x.cell y c h⟩,e0.hok.fresh (Nat.le_refl _),fun y c h=>?_,fun p hp=>absurd (show p∈([]:List (Addr × Obj)) from hp) (by simp),e0.hok.kept hk,?_⟩
 ·exact name_of_addr x.apart (PySem.mem_of_lookup h1) (PySem.mem_of_lookup h2)
 ·have hy:scope.names.lookup y=some .cell\/scope.names.lookup y=some .free:=hy
  rcases hy with hy | hy
  ·exact cell_has hy
  ·exact absurd rfl (S.nofree _ (PySem.mem_of_lookup hy))
 ·exact Nat.le_of_lt (x.above y c (PySem.mem_of_lookup h))
 ·have hi:i < vs.length:=by
   unfold start at h2
   by_cases hi:i < vs.length
   ·exact hi
   ·rw [List.getElem?_append_right (by simpa using hi)] at h2
    rw [List.getElem?_replicate] at h2
    split at h2<;>cases h2
  have ha:vs[i]?=some v:=by
   unfold start at h2
   rw [List.getElem?_append_left (by simpa using hi),List.getElem?_map] at h2
   cases e:vs[i]? with
   | none=>rw [e] at h2;cases h2
   | some a=>rw [e] at h2;cases h2;rfl
  obtain ⟨u,hu,rv⟩:=r.get ha
  have hp:ps[i]?=some y:=by
   rw [<- S.pre,List.getElem?_take_of_lt (by omega)];exact h1
  have ndP:ps.Nodup:=by rw [<- S.pre];exact S.nd.sublist (List.take_sublist _ _)
  refine ⟨u,rv,?_⟩
  rcases S.par y (List.mem_of_getElem? hp) with k | k
  ·exact .inl ⟨k,bindL_get ndP hp hu k⟩
  ·obtain ⟨c,e⟩:=cell_has (n:=s.heap.objs.size+1) k
   refine .inr ⟨.inl k,c,e,?_⟩
   have q:=x.cell y c e
   rw [bindC_get ndP hp hu (by show scope.names.lookup y≠_;rw [k];decide)] at q
   exact q
 ·exact e0.hok.fresh (Nat.le_of_lt (x.above y c (PySem.mem_of_lookup h)))
 ·unfold start
  show _=N.length
  rw [List.length_append,List.length_map,List.length_replicate]
  omega
theorem fn_of {CX:CXT} {P:Program} {w:World} {K:PySem.W.Frag} {mg:Str->Option Value} {base:Heap} {k:Nat} {f:Addr} {name qual:Str} {params:Arguments} {body:List Stmt} {scope:Scope} {dV kV doc pm cdv ct oc:Value} {an od:Option Addr}
  {osl:Array (Option Value)} {N ps:List Str} {sp:Sp} (lk:K.lookup f=some ⟨oc,od,.func (PySem.W.fnOf name qual params body scope dV kV doc pm an cdv ct),osl⟩) (hcd:PySem.W.codeIn K cdv qual=true) (S:FnScope N ps scope)
  (len:∀ vs H Q E,sp vs H Q E->vs.length=ps.length)
  (hbody:∀ (A:Around) (outer:List Env) (s:Shared) (H:Hp) (vs:List V) (Q:VK) (E:XK),Room k (A.deeper (envOfC qual scope s.heap.objs.size f cdv))->sp vs H Q E ->
   ∃ t,PSs (cxOf CX P w K mg base N qual scope f cdv A outer s H E) body t/\t { nx:=fun _ H'=>Q .non H',rt:=Q } (start N vs) H) :
  FnOk P w K mg base CX (k+1) f (PySem.W.fnOf name qual params body scope dV kV doc pm an cdv ct) ps sp:=by
 refine ⟨len,fun A outer s H args us vs Q E hr e0 hb r hsp=>?_⟩
 have hl:=len _ _ _ _ hsp
 have KX:K.In s.heap:=e0.mod.kin.keeps fun b o e=>(e0.bs b o e).1
 have lim:s.heap.NoLimit:=e0.mod.nolimit.keeps fun b o e=>(e0.bs b o e).1
 have hkind:∀ y∈ps.zip us,scope.names.lookup y.1=some .local\/(scope.names.lookup y.1=some .cell/\((cellsFrom (s.heap.objs.size+1) scope.names []).lookup y.1).isSome=true):=fun ⟨n,v⟩ hy=>by
  rcases S.par n (List.of_mem_zip hy).1 with q | q
  ·exact .inl q
  ·exact .inr ⟨q,PySem.W.cellsFrom_some _ _ _ (.inl q)⟩
 refine codeAny_call_function hr.depth (KX _ _ lk) rfl S.co S.gen rfl (PySem.W.codeRec_of KX hcd) (hb _ _ _ _ ?_)
 refine wpAny_newFunctionEnv_cells S.kind hkind fun env he s1 x=>?_
 subst he
 refine ⟨lim.keeps x.toInCall.keep,codeAny_func ?_⟩
 obtain ⟨t,ht,hq⟩:=hbody A outer s H vs Q E (hr.deeper _) hsp
 have I:Inv (cxOf CX P w K mg base N qual scope f cdv A outer s H E) [] (start N vs) H s1:=inv_start S hr.hd e0 hl r x
 refine wpAny_mono (ht [] s1 (start N vs) H _ I hq) (fun fl s' hs=>?_) fun e s' hs=>hs
 have fin:∀ {σ':St} {H':Hp} {v:V} {u:Value},Inv (cxOf CX P w K mg base N qual scope f cdv A outer s H E) [] σ' H' s'->RelV v u->Q v H'->CE outer P w H s Q u s' :=
  fun {σ' H' v u} J rv q=>⟨v,H',J.os,J.bare,J.base,J.hok,rv,q⟩
 cases fl with
 | ret u =>
  obtain ⟨v,σ',H',J,rv,q⟩:=hs
  exact fin J rv q
 | next =>
  obtain ⟨σ',H',J,q⟩:=hs
  exact fin (v:=V.non) (u:=Value.none) J rfl q
 | brk =>
  obtain ⟨_,_,_,q⟩:=hs
  exact False.elim q
 | cont =>
  obtain ⟨_,_,_,q⟩:=hs
  exact False.elim q
section
variable {X:Cx} {x:Str} {p pos:Pos} {e:Expr} {es:List Expr} {t:TA} {id T:String} {r:List V->Hp->VK->Prop}
def tCB (r:List V->Hp->VK->Prop) (t:TA):TE:=fun σ H Q=>t σ H fun vs H1=>r vs H1 Q
theorem pe_callB (hc:CallR X (.builtin id) r) (hg:Gl X x) (hm:X.mg x=none) (hv:bootBuiltins x=some (.builtin id)) (ha:PA X (e::es) t) (hn:x≠"__name__" := by decide) (hdb:(x == ("__debug__" : Str))=false:=by decide)
  (he:starEach (e::es) X.env=(false,eval e X.env)::starEach es X.env:=by rfl) (hpl:(backTo pos (starEach es X.env)).any (·.1)=false:=by rfl):PE X (.Call (.Name x p) (e::es) [] pos) (tCB r t):=by
 intro pins s σ H Q I h
 refine wpAny_Call_Name_kw (ld_blt I hg hm hv ?_ hn hdb)
 exact PyProof.Rows.callWith_builtin1 (thn (ha pos pins s σ H _ I h) fun us s1 ⟨vs,H1,I1,r1,q1⟩=>hc pins s1 σ H1 vs us Q I1 r1 q1) he hpl
theorem pe_callTy (hc:CallR X (.type T) r) (hg:Gl X x) (hm:X.mg x=none) (hv:bootBuiltins x=some (.type T)) (ha:PA X (e::es) t) (hn:x≠"__name__" := by decide) (hdb:(x == ("__debug__" : Str))=false:=by decide)
  (he:starEach (e::es) X.env=(false,eval e X.env)::starEach es X.env:=by rfl) (hpl:(backTo pos (starEach es X.env)).any (·.1)=false:=by rfl):PE X (.Call (.Name x p) (e::es) [] pos) (tCB r t):=by
 intro pins s σ H Q I h
 refine wpAny_Call_Name_kw (ld_blt I hg hm hv ?_ hn hdb)
 exact PyProof.Rows.callWith_type1 (thn (ha pos pins s σ H _ I h) fun us s1 ⟨vs,H1,I1,r1,q1⟩=>hc pins s1 σ H1 vs us Q I1 r1 q1) he hpl
end
end L2
namespace HT
open PySem PyProof.Rows
section
open PySem.SeqAt
open PySem.AutoSeq1 (wpAny_loadPart')
open PySem.MeetsSeq PySem.MeetsSeq2 PySem.MeetsSeq3
end
section
variable {prog:Program} {w:World} {A:Around} {E:Value->Shared->Prop} {s:Shared}
def sIx (n d:Nat):Option Int->Nat
 | none=>d
 | some v=>if v < 0 then (v+(n:Int)).toNat else min v.toNat n
end
end HT
namespace L2
open PySem PySem.Spec PyProof.Rows
abbrev TO:=St->Hp->(Option Int->Hp->Prop)->Prop
def PO (X:Cx) (e:Option Expr) (t:TO):Prop :=
 ∀ (pins:List (Addr × Obj)) (s:Shared) (σ:St) (H:Hp) (Q:Option Int->Hp->Prop),Inv X pins σ H s->t σ H Q ->
  wpAny (model X.prog X.w) X.A (evalPart e X.env) (fun u s'=>∃ o H',Inv X pins σ H' s'/\IsPart u o/\Q o H') X.xe s
def tNoPart:TO:=fun _ H Q=>Q none H
def tPart (t:TE):TO:=fun σ H Q=>t σ H fun x H1=>∃ i,x=.int i/\Q (some i) H1
section
variable {X:Cx} {e:Expr} {te:TE} {lo hi:Option Expr} {tl th:TO} {pos p2:Pos}
theorem po_none:PO X none tNoPart:=by
 intro pins s σ H Q I h
 rw [evalPart_none]
 exact wpAny_pure ⟨none,H,I,.none,h⟩
theorem po_some (h:PE X e te):PO X (some e) (tPart te):=by
 intro pins s σ H Q I hw
 rw [evalPart_some]
 refine thn (h pins s σ H _ I hw) fun u s1 ⟨x,H1,I1,r1,q1⟩=>?_
 obtain ⟨i,rfl,q⟩:=q1
 obtain ⟨t,rfl⟩:=r1
 exact ⟨some i,H1,I1,.int i t,q⟩
def SlR (X:Cx) (r:V->Option Int->Option Int->Hp->VK->Prop):Prop :=
 ∀ (pins:List (Addr × Obj)) (s:Shared) (σ:St) (H:Hp) (x:V) (v vl vu:Value) (lo hi:Option Int) (sl:Addr) (Q:VK),Inv X pins σ H s->RelV x v->s.heap.IsSliceOf sl vl vu .none->IsPart vl lo->IsPart vu hi->r x lo hi H Q ->
  ∃ T id,typeLookup (.type T) "__getitem__" = pure (some (.builtin id))/\s.TypeIs v T/\wpAny (model X.prog X.w) X.A (getItem v (.ref sl)) (EP X pins σ Q) X.xe s
def tSl (r:V->Option Int->Option Int->Hp->VK->Prop) (te:TE) (tl th:TO):TE:=fun σ H Q=>te σ H fun x H1=>tl σ H1 fun l H2=>th σ H2 fun u H3=>r x l u H3 Q
theorem pe_slice {r:V->Option Int->Option Int->Hp->VK->Prop} (hr:SlR X r) (he:PE X e te) (hl:PO X lo tl) (hu:PO X hi th):PE X (.Subscript e (.Slice lo hi none p2) pos) (tSl r te tl th):=by
 intro pins s σ H Q I h
 refine Subscript_ (thn (he pins s σ H _ I h) fun v s1 ⟨x,H1,I1,r1,q1⟩=>?_)
 refine wpAny_Slice (thn (hl pins s1 σ H1 _ I1 q1) fun vl s2 ⟨l,H2,I2,pl,q2⟩=>thn (hu pins s2 σ H2 _ I2 q2) fun vu s3 ⟨u,H3,I3,pu,q3⟩=>?_)
 rw [evalPart_none]
 refine wpAny_pure ?_
 have I4:Inv X pins σ H3 { s3 with heap:=s3.heap.push { cls:=.type "slice",data:=.fields #[vl,vu,.none] } }:=I3.kept (t':=s3.toks) fun b ob q=>Heap.get?_push_of_some _ q
 obtain ⟨T,id,hT,ht,hg⟩:=hr pins { s3 with heap:=s3.heap.push { cls:=.type "slice",data:=.fields #[vl,vu,.none] } } σ H3 x v vl vu l u s3.heap.objs.size Q I4 r1 (Heap.IsSliceOf.new ..) pl pu q3
 show wpAny (model X.prog X.w) X.A (subscriptTail e (.Slice lo hi none p2) v (.ref s3.heap.objs.size)) (EP X pins σ Q) X.xe { s3 with heap:=s3.heap.push { cls:=.type "slice",data:=.fields #[vl,vu,.none] } }
 exact tail_any (ops:=[.ref s3.heap.objs.size,v]) ht hT hg (by with_unfolding_all rfl)
def cutV (xs:List V) (lo hi:Option Int):List V:=(xs.drop (HT.sIx xs.length 0 lo)).take (HT.sIx xs.length xs.length hi - HT.sIx xs.length 0 lo)
theorem cutV_length (xs:List V) (lo hi:Option Int):(cutV xs lo hi).length<=xs.length:=by
 unfold cutV
 rw [List.length_take,List.length_drop]
 omega
end
def ixN (n:Nat) (i:Int):Option Nat:=if 0<=i then (if i < n then some i.toNat else none) else if -(n:Int)<=i then some (i+n).toNat else none
def atI {α:Type} (xs:List α) (i:Int):Option α:=(ixN xs.length i).bind fun j=>xs[j]?
theorem ixN_seq {n:Nat} {i:Int} {j:Nat} (h:ixN n i=some j):seqIndex? i n=some j/\j < n/\-(n:Int)<=i/\i < n:=by
 unfold ixN at h
 by_cases h0:0<=i
 ·rw [if_pos h0] at h
  by_cases h1:i < n
  ·rw [if_pos h1] at h
   have e:i.toNat=j:=Option.some.inj h
   exact ⟨by rw [seqIndex_of h0 h1,e],by omega,by omega,h1⟩
  ·rw [if_neg h1] at h;cases h
 ·rw [if_neg h0] at h
  by_cases h1:-(n:Int)<=i
  ·rw [if_pos h1] at h
   have e:(i+n).toNat=j:=Option.some.inj h
   exact ⟨by rw [seqIndex_neg (by omega) h1,e],by omega,h1,by omega⟩
  ·rw [if_neg h1] at h;cases h
theorem atI_get {α:Type} {xs:List α} {i:Int} {v:α} (h:atI xs i=some v):∃ j,seqIndex? i xs.length=some j/\xs[j]?=some v/\j < xs.length/\-(xs.length:Int)<=i/\i < xs.length:=by
 unfold atI at h
 cases e:ixN xs.length i with
 | none=>rw [e] at h;cases h
 | some j =>
  rw [e] at h
  obtain ⟨h1,h2,h3,h4⟩:=ixN_seq e
  exact ⟨j,h1,h,h2,h3,h4⟩
theorem atI_nat {α:Type} {xs:List α} {j:Nat} {v:α} (h:xs[j]?=some v):atI xs (j:Int)=some v:=by
 have hj:j < xs.length:=(List.getElem?_eq_some_iff.mp h).1
 have e:ixN xs.length (j:Int)=some j:=by
  unfold ixN
  rw [if_pos (by omega),if_pos (by omega)];simp
 unfold atI;rw [e];exact h
def PlainIx (b:Expr):Prop:=∀ o i,subscripted b false o i=operate [o,i] (getItem o i)
def IxR (X:Cx) (r:R2):Prop :=
 ∀ (value slice:Expr) (pins:List (Addr × Obj)) (s:Shared) (σ:St) (H:Hp) (x y:V) (v u:Value) (Q:VK),Inv X pins σ H s->RelV x v->RelV y u->r x y H Q ->
  subscripted slice false v u=operate [v,u] (getItem v u)->wpAny (model X.prog X.w) X.A (subscriptTail value slice v u) (EP X pins σ Q) X.xe s
def MtR (X:Cx) (id:String) (r:V->List V->Hp->VK->Prop):Prop :=
 ∀ (pins:List (Addr × Obj)) (s:Shared) (σ:St) (H:Hp) (x:V) (xs:List V) (v:Value) (us:List Value) (Q:VK),Inv X pins σ H s->RelV x v->Vals xs us->r x xs H Q ->
  wpAny (model X.prog X.w) X.A (call (.builtin id) (v::us)) (EP X pins σ Q) X.xe s
section
variable {X:Cx} {a b:Expr} {ta tb:TE} {pos:Pos}
theorem pe_ix {r:R2} (hr:IxR X r) (ha:PE X a ta) (hb:PE X b tb) (hs:PlainIx b):PE X (.Subscript a b pos) (tOp r ta tb):=by
 intro pins s σ H Q I h
 exact Subscript_ (binT ha hb I h fun v u s2 x y H2 I2 rx ry q=>hr a b pins s2 σ H2 x y v u Q I2 rx ry q (hs _ _))
def rIxL (K:PySem.W.Frag):R2:=fun x y H Q=>∃ p xs i v,x=.ref p/\y=.int i/\SqL K H p xs/\atI xs i=some v/\Q v H
def rIxT (K:PySem.W.Frag):R2:=fun x y H Q=>∃ p xs i v,x=.ref p/\y=.int i/\SqT K H p xs/\atI xs i=some v/\Q v H
def rIxS:R2:=fun x y H Q=>∃ z i c,x=.str z/\y=.int i/\z.length<=sizeLine/\atI z.cps.toList i=some c/\Q (.str ⟨#[c]⟩) H
theorem ix_list:IxR X (rIxL X.K):=by
 intro value slice pins s σ H x y v u Q I rx ry h hs
 obtain ⟨p,xs,i,z,rfl,rfl,hq,he,q⟩:=h
 cases rx
 obtain ⟨t,rfl⟩:=ry
 obtain ⟨its,r,pl,hz⟩:=I.list hq
 obtain ⟨j,h1,h2,h3,h4,h5⟩:=atI_get he
 obtain ⟨w,ew,rw'⟩:=r.get h2
 have hl:=r.length
 have hn:=line63
 have fin:EP X pins σ Q w s:=⟨z,H,I,rw',q⟩
 by_cases h0:0<=i
 ·have hj:i.toNat=j:=by
   rw [seqIndex_of h0 h5] at h1
   exact Option.some.inj h1
  exact item_listR pl.isList h0 (by omega) (by rw [hj];simpa using ew) fin hs
 ·have hj:(i+(its.toArray.size:Int)).toNat=j:=by
   rw [seqIndex_neg (by omega) h4] at h1
   rw [List.size_toArray,<- hl]
   exact Option.some.inj h1
  exact subscriptTail_builtinR (x:=w) pl.isList.typeIs slot_list_getitem.lookup
   (wpAny_getItem_list_neg (Q:=fun r s'=>r=w/\EP X pins σ Q r s') pl.isList (by omega) (by rw [List.size_toArray]<;>omega) (by omega) (by rw [hj];simpa using ew) ⟨rfl,fin⟩) hs
theorem ix_tup:IxR X (rIxT X.K):=by
 intro value slice pins s σ H x y v u Q I rx ry h hs
 obtain ⟨p,xs,i,z,rfl,rfl,hq,he,q⟩:=h
 cases rx
 obtain ⟨t,rfl⟩:=ry
 obtain ⟨its,r,pl,hz⟩:=I.tuple hq
 obtain ⟨j,h1,h2,h3,h4,h5⟩:=atI_get he
 obtain ⟨w,ew,rw'⟩:=r.get h2
 have hl:=r.length
 have hn:=line63
 have fin:EP X pins σ Q w s:=⟨z,H,I,rw',q⟩
 exact subscriptTail_builtinR (x:=w) pl.typeIs slot_tuple_getitem.lookup
  (getItem_tuple (j:=j) (Q:=fun r s'=>r=w/\EP X pins σ Q r s') pl (by omega) (by omega) (by rw [List.size_toArray,<- hl];exact h1) (by simpa using ew) ⟨rfl,fin⟩) hs
theorem ix_str:IxR X rIxS:=by
 intro value slice pins s σ H x y v u Q I rx ry h hs
 obtain ⟨z,i,c,rfl,rfl,hz,he,q⟩:=h
 obtain ⟨t,rfl⟩:=rx
 obtain ⟨t',rfl⟩:=ry
 obtain ⟨j,h1,h2,h3,h4,h5⟩:=atI_get he
 have hl:z.cps.toList.length=z.length:=by simp [Str.length]
 rw [hl] at h1 h4 h5
 have hn:=line63
 exact tail_any (typeIs_str s z t) slot_str_getitem.lookup (getItem_str (c:=c) (by
  have e1:decide (i < -(2 ^ 63:Int))=false:=decide_eq_false (by omega)
  have e2:decide (i ≥ 2 ^ 63)=false:=decide_eq_false (by omega)
  rw [e1,e2,Bool.or_false]) (by rw [h1];simpa using h2) ⟨.str ⟨#[c]⟩,H,I.tok _,⟨_,rfl⟩,q⟩) hs
theorem mapSeq_set (its:List Value) (n j:Nat) (u:Value):Obj.mapSeq (·.setIfInBounds j u) { cls:=.type "list",data:=.seq its.toArray n }={ cls:=.type "list",data:=.seq (its.set j u).toArray n }:=by
 simp [Obj.mapSeq]
theorem Inv.lst {pins:List (Addr × Obj)} {σ:St} {H:Hp} {s:Shared} {p:Addr} {xs:List V} (I:Inv X pins σ H s) (h:H p=some (.lst xs)) :
  ∃ (its:List Value) (n:Nat),Vals xs its/\s.heap.get? p=some { cls:=.type "list",data:=.seq its.toArray n }/\xs.length<=sizeLine:=by
 obtain ⟨z,its,n,r,e⟩:=I.hok p _ h
 exact ⟨its,n,r,e,z⟩
theorem Inv.lstUpd {pins:List (Addr × Obj)} {σ:St} {H:Hp} {s:Shared} {p:Addr} {xs ys:List V} {its its':List Value} {n n':Nat} {f:Obj->Obj} (I:Inv X pins σ H s) (h:H p=some (.lst xs))
  (ho:s.heap.get? p=some { cls:=.type "list",data:=.seq its.toArray n }) (hf:f { cls:=.type "list",data:=.seq its.toArray n }={ cls:=.type "list",data:=.seq its'.toArray n' }) (r:Vals ys its') (hz:ys.length<=sizeLine) (t:Nat) :
  Inv X pins σ (upd H p (.lst ys)) { s with heap:=s.heap.update p f,toks:=t }:=by
 have e:(s.heap.update p f).get? p=some { cls:=.type "list",data:=.seq its'.toArray n' }:=by
  rw [Heap.get?_update_self f ho (by rw [hf]<;>rfl),hf]
 refine I.write (x:=p) (e:=p) (by rw [h];trivial) (.inl rfl) (fun b u hb q=>(Heap.get?_update_other _ _ (Ne.symm hb)).trans q) ⟨_,e⟩ ?_
 exact ⟨hz,its',n',r,e⟩
def rSetL:V->V->V->Hp->(Hp->Prop)->Prop:=fun o i v H Q=>∃ p xs k j,o=.ref p/\i=.int k/\H p=some (.lst xs)/\ixN xs.length k=some j/\Q (upd H p (.lst (xs.set j v)))
theorem set_list:PSet X rSetL:=by
 intro pins s σ H o i v ov iv u Q I ro ri rv h
 obtain ⟨p,xs,k,j,rfl,rfl,hp,hj,q⟩:=h
 cases ro
 obtain ⟨t,rfl⟩:=ri
 obtain ⟨its,n,r,ho,hz⟩:=I.lst hp
 obtain ⟨h1,h2,h3,h4⟩:=ixN_seq hj
 have hl:=r.length
 have hn:=line63
 have I':Inv X pins σ (upd H p (.lst (xs.set j v))) { s with heap:=s.heap.update p (Obj.mapSeq (·.setIfInBounds j u)) } :=
  I.lstUpd hp ho (mapSeq_set its n j u) (r.set rv j) (by rw [List.length_set];exact hz) s.toks
 by_cases h0:0<=k
 ·have hk:k.toNat=j:=by
   rw [seqIndex_of h0 h4] at h1
   exact Option.some.inj h1
  exact PySem.W.ki_setAt ho h0 (by omega) (by rw [List.size_toArray,<- hl];exact h4) (by rw [hk];exact ⟨_,I',q⟩)
 ·have hk:(k+(its.toArray.size:Int)).toNat=j:=by
   rw [seqIndex_neg (by omega) h3] at h1
   rw [List.size_toArray,<- hl]
   exact Option.some.inj h1
  exact PySem.W.ki_setBack ho (by omega) (by rw [List.size_toArray,<- hl];exact h3) (by omega) (by rw [hk];exact ⟨_,I',q⟩)
theorem slice_bounds (lo hi:Option Int) (n:Nat):(sliceBounds lo hi none n).1=((HT.sIx n 0 lo:Nat):Int)/\(sliceBounds lo hi none n).2.1=((HT.sIx n n hi:Nat):Int)/\(sliceBounds lo hi none n).2.2=1:=by
 refine ⟨?_,?_,rfl⟩
 ·cases lo with
  | none=>simp [sliceBounds,HT.sIx]
  | some i =>
   simp only [sliceBounds,HT.sIx,Option.getD_none,show (1:Int) > 0 by decide,if_true]
   by_cases h:i < 0
   ·simp only [h,if_true]<;>omega
   ·simp only [h,if_false]<;>omega
 ·cases hi with
  | none=>simp [sliceBounds,HT.sIx]
  | some i =>
   simp only [sliceBounds,HT.sIx,Option.getD_none,show (1:Int) > 0 by decide,if_true]
   by_cases h:i < 0
   ·simp only [h,if_true]<;>omega
   ·simp only [h,if_false]<;>omega
theorem slicePick_cut (its:List Value) (lo hi:Option Int):slicePick its.toArray lo hi none=((its.drop (HT.sIx its.length 0 lo)).take (HT.sIx its.length its.length hi - HT.sIx its.length 0 lo)).toArray:=by
 obtain ⟨h1,h2,h3⟩:=slice_bounds lo hi its.toArray.size
 unfold slicePick
 rw [h1,h2,h3]
 simp only [sliceRange_one,pick_run,List.size_toArray]<;>rfl
def rSlL (K:PySem.W.Frag):V->Option Int->Option Int->Hp->VK->Prop:=fun x lo hi H Q=>∃ a xs,x=.ref a/\SqL K H a xs/\∀ p,H p=none->Q (.ref p) (upd H p (.lst (cutV xs lo hi)))
theorem sl_list:SlR X (rSlL X.K):=by
 intro pins s σ H x v vl vu lo hi sl Q I rx hs pl pu h
 obtain ⟨a,xs,rfl,hx,q⟩:=h
 cases rx
 obtain ⟨its,r,ht,hz⟩:=I.list hx
 have hlen:=r.length
 refine ⟨"list",_,slot_list_getitem.lookup,ht.isList.typeIs,?_⟩
 refine wpAny_getItem_list_slice ht.isList hs pl pu .none (by simp) ?_ (by rw [List.size_toArray]<;>omega)
 rw [slicePick_cut,<- hlen]
 refine ⟨.ref s.heap.objs.size,_,I.laid (t':=s.toks) (o:=.lst (cutV xs lo hi)) (fun b ob q=>Heap.get?_push_of_some _ q) (Nat.le_refl _) ?_,rfl,q _ (I.hok.fresh (Nat.le_refl _))⟩
 exact ⟨Nat.le_trans (cutV_length xs lo hi) hz,_,0,(r.drop (HT.sIx xs.length 0 lo)).take (HT.sIx xs.length xs.length hi - HT.sIx xs.length 0 lo),Heap.get?_push_size _ rfl⟩
def flatV:V->Bool
 | .non=>true
 | .bl _=>true
 | .int _=>true
 | .str _=>true
 | _=>false
def eqV:V->V->Bool
 | .non,.non=>true
 | .bl a,.bl b=>a == b
 | .bl a,.int b=>(if a then 1 else 0) == b
 | .int a,.bl b=>a == (if b then 1 else 0)
 | .int a,.int b=>a == b
 | .str a,.str b=>a == b
 | _,_=>false
theorem eqAt_V {A:Around} {s:Shared} {y x:V} {u v:Value} (ry:RelV y u) (rx:RelV x v) (fy:flatV y=true) (fx:flatV x=true):SeqAt.EqAt A s u v (eqV y x):=by
 cases y with
 | non =>
  cases ry
  cases x with
  | non=>cases rx;exact SeqAt.EqAt.same _
  | bl b=>cases rx;exact SeqAt.EqAt.none_bool b
  | int b=>obtain ⟨t,rfl⟩:=rx;exact SeqAt.EqAt.none_int b t
  | str b=>obtain ⟨t,rfl⟩:=rx;exact SeqAt.EqAt.none_str b t
  | _=>exact absurd (show false=true from fx) Bool.false_ne_true
 | bl a =>
  cases ry
  cases x with
  | non=>cases rx;exact SeqAt.EqAt.bool_none a
  | bl b=>cases rx;exact SeqAt.EqAt.bool_bool a b
  | int b=>obtain ⟨t,rfl⟩:=rx;exact SeqAt.EqAt.bool_int a b t
  | str b=>obtain ⟨t,rfl⟩:=rx;exact SeqAt.EqAt.bool_str a b t
  | _=>exact absurd (show false=true from fx) Bool.false_ne_true
 | int a =>
  obtain ⟨t',rfl⟩:=ry
  cases x with
  | non=>cases rx;exact SeqAt.EqAt.int_none a t'
  | bl b=>cases rx;exact SeqAt.EqAt.int_bool a t' b
  | int b=>obtain ⟨t,rfl⟩:=rx;exact SeqAt.EqAt.int_int a t' b t
  | str b=>obtain ⟨t,rfl⟩:=rx;exact SeqAt.EqAt.int_str a t' b t
  | _=>exact absurd (show false=true from fx) Bool.false_ne_true
 | str a =>
  obtain ⟨t',rfl⟩:=ry
  cases x with
  | non=>cases rx;exact SeqAt.EqAt.str_none a t'
  | bl b=>cases rx;exact SeqAt.EqAt.str_bool a t' b
  | int b=>obtain ⟨t,rfl⟩:=rx;exact SeqAt.EqAt.str_int a t' b t
  | str b=>obtain ⟨t,rfl⟩:=rx;exact SeqAt.EqAt.str_str a t' b t
  | _=>exact absurd (show false=true from fx) Bool.false_ne_true
 | _=>exact absurd (show false=true from fy) Bool.false_ne_true
def eqU (x:V) (u:Value):Bool:=match u with
 | .none=>eqV .non x
 | .bool b=>eqV (.bl b) x
 | .int i _=>eqV (.int i) x
 | .str z _=>eqV (.str z) x
 | _=>false
theorem eqU_of {x y:V} {u:Value} (r:RelV y u) (f:flatV y=true):eqU x u=eqV y x:=by
 cases y with
 | non=>cases r;rfl
 | bl b=>cases r;rfl
 | int i=>obtain ⟨t,rfl⟩:=r;rfl
 | str z=>obtain ⟨t,rfl⟩:=r;rfl
 | _=>exact absurd (show false=true from f) Bool.false_ne_true
theorem any_eqU {x:V}:∀ {xs:List V} {us:List Value},Vals xs us->xs.all flatV=true->us.any (eqU x)=xs.any fun y=>eqV y x
 | _,_,.nil,_=>rfl
 | y::xs,u::us,.cons r t,f=>by
  rw [List.all_cons,Bool.and_eq_true] at f
  rw [List.any_cons,List.any_cons,eqU_of r f.1,any_eqU t f.2]
theorem mem_eqAt {A:Around} {s:Shared} {x:V} {v:Value} (rx:RelV x v) (fx:flatV x=true):∀ {xs:List V} {us:List Value},Vals xs us->xs.all flatV=true->∀ u∈us,SeqAt.EqAt A s u v (eqU x u)
 | _,_,.nil,_=>fun u hu=>by cases hu
 | y::xs,u::us,.cons r t,f=>fun u' hu=>by
  rw [List.all_cons,Bool.and_eq_true] at f
  rcases List.mem_cons.mp hu with rfl | hu
  ·rw [eqU_of r f.1];exact eqAt_V r rx f.1 fx
  ·exact mem_eqAt rx fx t f.2 u' hu
def inV (x:V) (xs:List V):Bool:=xs.any fun y=>eqV y x
def rIn (K:PySem.W.Frag) (neg:Bool):R2:=fun x y H Q=>∃ p xs,y=.ref p/\(SqL K H p xs\/SqT K H p xs)/\flatV x=true/\xs.all flatV=true/\Q (.bl (if neg then !inV x xs else inV x xs)) H
theorem op_in_seq:OpR X (compareOp .In) (rIn X.K false):=by
 intro pins s σ H x y v u Q I rx ry h
 obtain ⟨p,xs,rfl,hq,fx,fs,q⟩:=h
 cases ry
 rcases hq with hq | hq
 ·obtain ⟨its,r,pl,hz⟩:=I.list hq
  refine SeqAt.in_listAt (eqU x) pl.isList (fun w hw=>mem_eqAt rx fx r fs w (by simpa using hw)) ⟨.bl _,H,I,rfl,?_⟩
  rw [show its.toArray.any (eqU x)=its.any (eqU x) by simp,any_eqU r fs]
  exact q
 ·obtain ⟨its,r,pl,hz⟩:=I.tuple hq
  refine SeqAt.in_tupleAt (eqU x) pl (fun w hw=>mem_eqAt rx fx r fs w (by simpa using hw)) ⟨.bl _,H,I,rfl,?_⟩
  rw [show its.toArray.any (eqU x)=its.any (eqU x) by simp,any_eqU r fs]
  exact q
theorem op_notIn_seq:OpR X (compareOp .NotIn) (rIn X.K true):=by
 intro pins s σ H x y v u Q I rx ry h
 obtain ⟨p,xs,rfl,hq,fx,fs,q⟩:=h
 cases ry
 rcases hq with hq | hq
 ·obtain ⟨its,r,pl,hz⟩:=I.list hq
  refine SeqAt.notIn_listAt (eqU x) pl.isList (fun w hw=>mem_eqAt rx fx r fs w (by simpa using hw)) ⟨.bl _,H,I,rfl,?_⟩
  rw [show its.toArray.any (eqU x)=its.any (eqU x) by simp,any_eqU r fs]
  exact q
 ·obtain ⟨its,r,pl,hz⟩:=I.tuple hq
  refine SeqAt.notIn_tupleAt (eqU x) pl (fun w hw=>mem_eqAt rx fx r fs w (by simpa using hw)) ⟨.bl _,H,I,rfl,?_⟩
  rw [show its.toArray.any (eqU x)=its.any (eqU x) by simp,any_eqU r fs]
  exact q
theorem call_len_seq:CallR X (.builtin "len") (fun xs H Q=>∃ p ys,xs=[.ref p]/\(SqL X.K H p ys\/SqT X.K H p ys)/\Q (.int ys.length) H):=by
 intro pins s σ H xs us Q I r h
 obtain ⟨p,ys,rfl,hq,q⟩:=h
 obtain ⟨u,rfl,rx⟩:=vals1 r
 cases rx
 have hn:=line63
 rcases hq with hq | hq
 ·obtain ⟨its,r',pl,hz⟩:=I.list hq
  have hlen:=r'.length
  exact Calls.call_len_list pl.isList (by simp only [List.size_toArray]<;>omega) ⟨.int ys.length,H,I.tok _,⟨s.toks+1,by rw [List.size_toArray,hlen]⟩,q⟩
 ·obtain ⟨its,r',pl,hz⟩:=I.tuple hq
  have hlen:=r'.length
  exact len_tuple pl (by simp only [List.size_toArray]<;>omega) ⟨.int ys.length,H,I.tok _,⟨s.toks+1,by rw [List.size_toArray,hlen]⟩,q⟩
theorem call_len_str:CallR X (.builtin "len") (fun xs H Q=>∃ z,xs=[.str z]/\z.length<=sizeLine/\Q (.int z.length) H):=by
 intro pins s σ H xs us Q I r h
 obtain ⟨z,rfl,hz,q⟩:=h
 obtain ⟨u,rfl,t,rfl⟩:=vals1 r
 have hn:=line63
 exact len_str (by omega) ⟨.int z.length,H,I.tok _,⟨_,rfl⟩,q⟩
theorem call_list_of:CallR X (.type "list") (fun xs H Q=>∃ p ys,xs=[.ref p]/\(SqL X.K H p ys\/SqT X.K H p ys)/\∀ l,H l=none->Q (.ref l) (upd H l (.lst ys))):=by
 intro pins s σ H xs us Q I r h
 obtain ⟨p,ys,rfl,hq,q⟩:=h
 obtain ⟨u,rfl,rx⟩:=vals1 r
 cases rx
 have fin:∀ (its:List Value),Vals ys its->ys.length<=sizeLine->∀ (h':Heap) (c':Nat),(∀ b o',s.heap.get? b=some o'->h'.get? b=some o') ->
   h'.get? s.heap.objs.size=some { cls:=.type "list",dict:=none,data:=.seq its.toArray c',slots:=#[] }->EP X pins σ Q (.ref s.heap.objs.size) { s with heap:=h' }:=fun its r' hz h' c' kp e =>
  ⟨.ref s.heap.objs.size,_,I.laid (t':=s.toks) kp (Nat.le_refl _) (show ObjOk X.prog X.w _ h' _ (.lst ys) from ⟨hz,its,c',r',e⟩),rfl,q _ (I.hok.fresh (Nat.le_refl _))⟩
 rcases hq with hq | hq
 ·obtain ⟨its,r',pl,hz⟩:=I.list hq
  have hlen:=r'.length
  obtain ⟨o,ho,hc,n,hd⟩:=pl.isList
  exact call_list_seq p (.inl rfl) ho hc hd (fun h' c' kp e=>fin its r' hz h' c' kp e) (by simp only [List.size_toArray]<;>omega)
 ·obtain ⟨its,r',pl,hz⟩:=I.tuple hq
  have hlen:=r'.length
  obtain ⟨o,ho,hc,n,hd⟩:=pl
  exact call_list_seq p (.inr rfl) ho hc hd (fun h' c' kp e=>fin its r' hz h' c' kp e) (by simp only [List.size_toArray]<;>omega)
theorem call_tuple_of:CallR X (.type "tuple") (fun xs H Q=>∃ p ys,xs=[.ref p]/\((SqL X.K H p ys/\∀ l,H l=none->Q (.ref l) (upd H l (.tup ys)))\/(SqT X.K H p ys/\Q (.ref p) H))):=by
 intro pins s σ H xs us Q I r h
 obtain ⟨p,ys,rfl,h⟩:=h
 obtain ⟨u,rfl,rx⟩:=vals1 r
 cases rx
 rcases h with ⟨hq,q⟩ | ⟨hq,q⟩
 ·obtain ⟨its,r',pl,hz⟩:=I.list hq
  have hlen:=r'.length
  refine call_tuple_list pl.isList (fun h' kp=>?_) (by simp only [List.size_toArray]<;>omega)
  have I1:Inv X pins σ H { s with heap:=h' }:=I.kept (t':=s.toks) kp
  have I2:Inv X pins σ (upd H h'.objs.size (.tup ys)) { s with heap:=h'.push { cls:=.type "tuple",data:=.seq its.toArray } } :=
   I1.laid (t':=s.toks) (fun b o e=>Heap.get?_push_of_some _ e) (Nat.le_refl _) (show ObjOk X.prog X.w _ _ _ (.tup ys) from ⟨hz,its,r',IsTup.new _ _⟩)
  exact ⟨.ref h'.objs.size,_,I2,rfl,q _ (I1.hok.fresh (Nat.le_refl _))⟩
 ·obtain ⟨its,r',pl,hz⟩:=I.tuple hq
  exact call_tuple_same pl ⟨.ref p,H,I,rfl,q⟩
def tyV (K:PySem.W.Frag) (T:String) (x:V) (H:Hp):Prop:=match x with
 | .str _=>T="str"
 | .int _=>T="int"
 | .ref p=>(T="list" /\ ∃ xs,SqL K H p xs)\/(T="tuple" /\ ∃ o,K.lookup p=some o/\o.cls=.type "tuple" /\ o.dict=none) \/
   (T="dict" /\ ((∃ kvs,H p=some (.dK kvs))\/∃ kvs,H p=some (.dT kvs)))\/(T="set" /\ ∃ S n,H p=some (.set S n))
 | _=>False
theorem tyV_is {pins:List (Addr × Obj)} {σ:St} {H:Hp} {s:Shared} {T:String} {x:V} {v:Value} (I:Inv X pins σ H s) (r:RelV x v) (ty:tyV X.K T x H) :
  s.TypeIs v T/\∀ a,v=.ref a->∃ ob,s.heap.get? a=some ob/\ob.dict=none:=by
 cases x with
 | str z =>
  obtain ⟨t,rfl⟩:=r
  cases (show T="str" from ty)
  exact ⟨typeIs_str s z t,fun _ e=>nomatch e⟩
 | int i =>
  obtain ⟨t,rfl⟩:=r
  cases (show T="int" from ty)
  exact ⟨typeIs_int s i t,fun _ e=>nomatch e⟩
 | ref p =>
  cases r
  rcases ty with ⟨rfl,xs,hq⟩ | ⟨rfl,o,hk,hc,hd⟩ | ⟨rfl,hk⟩ | ⟨rfl,S,n,hk⟩
  ·obtain ⟨its,_,pl,_⟩:=I.list hq
   refine ⟨pl.isList.typeIs,fun a e=>?_⟩
   cases e
   obtain ⟨o,n,e,c,hd,_⟩:=pl
   exact ⟨o,e,hd⟩
  ·refine ⟨⟨o,I.kIn p o hk,hc⟩,fun a e=>?_⟩
   cases e
   exact ⟨o,I.kIn _ o hk,hd⟩
  ·have z:∃ o,s.heap.get? p=some o/\o.ExactDict:=by
    rcases hk with ⟨kvs,hk⟩ | ⟨kvs,hk⟩
    ·obtain ⟨_,_,_,_,o,_,_,e,ex,_⟩:=I.hok p _ hk
     exact ⟨o,e,ex⟩
    ·obtain ⟨_,_,_,_,o,_,_,e,ex,_⟩:=I.hok p _ hk
     exact ⟨o,e,ex⟩
   obtain ⟨o,e,ex⟩:=z
   refine ⟨⟨o,e,ex.1⟩,fun a e2=>?_⟩
   cases e2
   exact ⟨o,e,ex.2.1⟩
  ·obtain ⟨o,_,_,_,e,ex,_⟩:=I.hok p _ hk
   refine ⟨⟨o,e,ex.1⟩,fun a e2=>?_⟩
   cases e2
   exact ⟨o,e,ex.2.1⟩
 | _=>exact False.elim ty
def tBM0 (K:PySem.W.Frag) (T:String) (r:V->List V->Hp->VK->Prop) (to:TE):TE:=fun σ H Q=>to σ H fun x H1=>tyV K T x H1/\r x [] H1 Q
def tBM (K:PySem.W.Frag) (T:String) (r:V->List V->Hp->VK->Prop) (to:TE) (t:TA):TE:=fun σ H Q=>to σ H fun x H1=>tyV K T x H1/\t σ H1 fun xs H2=>r x xs H2 Q
variable {o e:Expr} {es:List Expr} {to:TE} {t:TA} {name:Str} {apos cpos:Pos} {T id:String} {r:V->List V->Hp->VK->Prop}
theorem pe_bm0 (pa:PlainAttrs T) (slot:Slot T name id) (hty:typeOf (.builtin id)=pure (.type "method_descriptor")) (hm:MtR X id r) (ho:PE X o to)
  (hbase:attributeBase o name X.env (eval o X.env)=eval o X.env:=by rfl) (hline:(apos.endLine == cpos.line)=true:=by rfl):PE X (.Call (.Attribute o name apos) [] [] cpos) (tBM0 X.K T r to):=by
 intro pins s σ H Q I h
 refine wpAny_Call_method0_late hbase hline (thn (ho pins s σ H _ I h) fun v s1 ⟨x,H1,I1,r1,ty,q1⟩=>?_)
 obtain ⟨h1,h2⟩:=tyV_is I1 r1 ty
 exact ⟨T,id,pa,slot,hty,h1,h2,Calls.callWith_builtin rfl (PySem.evalArgs_none (hm pins s1 σ H1 x [] v [] Q I1 r1 .nil q1))⟩
theorem pe_bm (pa:PlainAttrs T) (slot:Slot T name id) (hty:typeOf (.builtin id)=pure (.type "method_descriptor")) (hm:MtR X id r) (ho:PE X o to) (ha:PA X (e::es) t)
  (hbase:attributeBase o name X.env (eval o X.env)=eval o X.env:=by rfl)
  (hfew:((backTo cpos (starEach (e::es) X.env)).all (fun x=>!x.1) && (backToKw cpos (keywordEach [] X.env)).all (fun x=>x.1.isSome)
   && decide ((e::es).length+([]:List Keyword).length+(if ([]:List Keyword).isEmpty then 0 else 1) < 30))=true:=by rfl)
  (hline:(apos.endLine == cpos.line)=true:=by rfl) (hs:starEach (e::es) X.env=(false,eval e X.env)::starEach es X.env:=by rfl) (hplain:(backTo cpos (starEach es X.env)).any (·.1)=false:=by rfl) :
  PE X (.Call (.Attribute o name apos) (e::es) [] cpos) (tBM X.K T r to t):=by
 intro pins s σ H Q I h
 refine wpAny_Call_method_late hbase hfew hline rfl (thn (ho pins s σ H _ I h) fun v s1 ⟨x,H1,I1,r1,ty,q1⟩=>?_)
 obtain ⟨h1,h2⟩:=tyV_is I1 r1 ty
 refine ⟨T,id,pa,slot,hty,h1,h2,?_⟩
 have hA:=ha cpos pins s1 σ H1 _ I1 q1
 rw [hs] at hA ⊢
 refine Calls.callWith_builtin (by show (false || (backTo cpos (starEach es X.env)).any (·.1))=false;rw [hplain]<;>rfl) (Calls.evalArgs_plain ?_)
 exact thn hA fun us s2 ⟨vs,H2,I2,r2,q2⟩=>hm pins s2 σ H2 x vs v us Q I2 r1 r2 q2
end
def MtM (X:Cx) (id:String) (r:V->List V->Hp->VK->Prop):Prop :=
 ∀ (pins:List (Addr × Obj)) (s:Shared) (σ:St) (H:Hp) (x:V) (xs:List V) (v:Value) (us:List Value) (Q:VK),Inv X pins σ H s->RelV x v->Vals xs us->r x xs H Q ->
  wpAny (model X.prog X.w) X.A (call (.builtin id) (v::us)) (EP X pins σ Q) X.xe s
theorem Vals.one:∀ {x:V} {us:List Value},Vals [x] us->∃ u,us=[u]/\RelV x u
 | _,_,.cons r .nil=>⟨_,rfl,r⟩
theorem Vals.zero:∀ {us:List Value},Vals [] us->us=[]
 | _,.nil=>rfl
theorem Vals.dropLast {xs:List V} {us:List Value} (h:Vals xs us):Vals xs.dropLast us.dropLast:=by
 induction h with
 | nil=>exact .nil
 | cons r t ih =>
  cases t with
  | nil=>exact .nil
  | cons q t'=>exact .cons r ih
theorem erase_last {α:Type} (l:List α):l.eraseIdx (l.length - 1)=l.dropLast:=by
 induction l with
 | nil=>rfl
 | cons a r ih =>
  cases r with
  | nil=>rfl
  | cons b r =>
   have e:(a::b::r).length - 1=((b::r).length - 1)+1:=by
    have h1:(a::b::r).length=r.length+2:=rfl
    have h2:(b::r).length=r.length+1:=rfl
    omega
   rw [e,List.eraseIdx_cons_succ,ih]
   all_goals rfl
theorem len_erase {α:Type}:∀ (l:List α) (i:Nat),(l.eraseIdx i).length<=l.length
 | [],_=>Nat.le_refl _
 | _::_,0=>Nat.le_succ _
 | _::r,i+1=>Nat.succ_le_succ (len_erase r i)
section
variable {X:Cx} {pins:List (Addr × Obj)} {σ:St} {H:Hp} {s:Shared} {l b:Addr} {xs ys zs:List V}
theorem Inv.lset {its its':List Value} {n:Nat} {f:Array Value->Array Value} {t':Nat} (I:Inv X pins σ H s) (hH:H l=some (.lst xs))
  (e:s.heap.get? l=some { cls:=.type "list",data:=.seq its.toArray n }) (hf:f its.toArray=its'.toArray) (hv:Vals ys its') (hz:ys.length<=sizeLine) :
  Inv X pins σ (upd H l (.lst ys)) { s with heap:=s.heap.update l (Obj.mapSeq f),toks:=t' }:=by
 have q:=PySem.IsL.update e f
 rw [hf] at q
 refine I.write (x:=l) (e:=l) (by rw [hH];exact trivial) (.inl rfl) (fun b' u hb hu=>(Heap.get?_update_other s.heap (Obj.mapSeq f) (Ne.symm hb)).trans hu) ⟨_,q⟩ ?_
 exact ⟨hz,its',_,hv,q⟩
theorem Inv.fresh (I:Inv X pins σ H s):H s.heap.objs.size=none:=I.hok.fresh (Nat.le_refl _)
theorem Inv.lstM (I:Inv X pins σ H s) (hH:H l=some (.lst xs)):xs.length<=sizeLine/\∃ (its:List Value) (n:Nat),Vals xs its/\xs.length=its.length/\s.heap.get? l=some { cls:=.type "list",data:=.seq its.toArray n }:=by
 obtain ⟨z,its,n,r,e⟩:=I.hok l _ hH
 exact ⟨z,its,n,r,r.length,e⟩
end
section
variable {X:Cx}
def rAppend:V->List V->Hp->VK->Prop:=fun x vs H Q=>∃ l xs y,x=.ref l/\vs=[y]/\H l=some (.lst xs)/\xs.length < sizeLine/\Q .non (upd H l (.lst (xs++[y])))
theorem mt_append:MtM X "list.append" rAppend:=by
 intro pins s σ H x vs v us Q I rx rv h
 obtain ⟨l,xs,y,rfl,rfl,hH,hz,q⟩:=h
 cases rx
 obtain ⟨u,rfl,ru⟩:=rv.one
 obtain ⟨z,its,n,r,hl,e⟩:=I.lstM hH
 refine call_meets F.slot_list_append ⟨_,e,rfl⟩ F.entry_list_append (F.args_list_append_2 _ _) (PySem.list_append l its.toArray n u (by rw [List.size_toArray];omega)) ⟨e,?_⟩
 refine ⟨.non,_,I.lset (its':=its++[u]) hH e (by simp) (r.append (.cons ru .nil)) ?_,rfl,q⟩
 rw [List.length_append,List.length_singleton]
 omega
def rPop:V->List V->Hp->VK->Prop:=fun x vs H Q=>∃ l xs y,x=.ref l/\vs=[]/\H l=some (.lst xs)/\xs[xs.length - 1]?=some y/\Q y (upd H l (.lst xs.dropLast))
theorem mt_pop:MtM X "list.pop" rPop:=by
 intro pins s σ H x vs v us Q I rx rv h
 obtain ⟨l,xs,y,rfl,rfl,hH,hy,q⟩:=h
 cases rx
 have hus:=rv.zero
 subst hus
 obtain ⟨z,its,n,r,hl,e⟩:=I.lstM hH
 obtain ⟨u,hu,ru⟩:=r.get hy
 have hy':its.toArray[its.toArray.size - 1]?=some u:=by
  show its.toArray[its.length - 1]?=some u
  rw [<- Array.getElem?_toList,<- hl]
  exact hu
 refine call_meets F.slot_list_pop ⟨_,e,rfl⟩ F.entry_list_pop (F.args_list_pop_1 _) (MeetsSeq.list_pop_last l its.toArray n u hy' (by rw [List.size_toArray];omega)) ⟨e,?_⟩
 refine ⟨y,_,I.lset (its':=its.dropLast) hH e ?_ r.dropLast ?_,ru,q⟩
 ·show its.toArray.eraseIdxIfInBounds (its.toArray.size - 1)=its.dropLast.toArray
  rw [List.size_toArray,List.eraseIdxIfInBounds_toArray,erase_last]
 ·rw [List.length_dropLast]
  omega
def rClear:V->List V->Hp->VK->Prop:=fun x vs H Q=>∃ l xs,x=.ref l/\vs=[]/\H l=some (.lst xs)/\Q .non (upd H l (.lst []))
theorem mt_clear:MtM X "list.clear" rClear:=by
 intro pins s σ H x vs v us Q I rx rv h
 obtain ⟨l,xs,rfl,rfl,hH,q⟩:=h
 cases rx
 have hus:=rv.zero
 subst hus
 obtain ⟨z,its,n,r,hl,e⟩:=I.lstM hH
 refine call_meets F.slot_list_clear ⟨_,e,rfl⟩ F.entry_list_clear (F.args_list_clear_1 _) (AutoSeq1.list_clear_list_0 l its.toArray n (by rw [List.size_toArray];omega)) ⟨e,?_⟩
 exact ⟨.non,_,I.lset (its':=[]) (ys:=[]) hH e rfl .nil (Nat.zero_le _),rfl,q⟩
end
section
variable {prog:Program} {w:World} {A:Around} {E:Value->Shared->Prop} {s:Shared}
set_option maxRecDepth 100000 in
end
section
variable {X:Cx}
end
end L2
namespace Att
open PySem PySem.W PySem.Calls PyProof.Rows
theorem ints_of_wellAll {P:Params} {h:Heap}:∀ (ns:List Int) (vs:List Value),WellAll P h vs (ns.map WData.int)->IntsAre vs ns:=by
 intro ns
 induction ns with
 | nil =>
  intro vs w
  rw [List.map_nil] at w
  cases w
  exact .nil
 | cons n ns ih =>
  intro vs w
  rw [List.map_cons] at w
  cases w with
  | cons a b =>
   cases a
   exact .cons _ _ (ih _ b)
theorem script_of {l:OpenLaw} {n:Nat} (hn:l.most=some n) {P:Params} {h:Heap} {args:List WData} {vals:List Value}
  (hpre:l.row.toRowW.claim.pre args=true) (hwl:WellAll P h vals args) :
  ∃ a vs ns,vals=[Value.ref a]/\args=[WData.list (ns.map WData.int)]/\h.get? a=some { cls:=.type "list",data:=.seq vs.toArray }/\IntsAre vs ns/\ns.length<=n:=by
 have hsh:WShape.hasAll [] args [.list .int]=true:=(pre_splitW hpre).1
 have hc:l.pre.holds [] { args:=args }=true:=(pre_splitW hpre).2
 obtain ⟨d,r,rfl,h1,h2⟩:=hasAllW_cons hsh
 obtain rfl:=hasAllW_nil h2
 obtain ⟨xs,rfl,h3⟩:=hasW_list h1
 obtain ⟨ns,rfl⟩:=items_int h3
 have hlen:ns.length<=n:=by
  unfold OpenLaw.pre at hc
  have h4:(WTm.not (.lt (.lit (.int (n:Int))) (.len (.arg 0)))).holds [] { args:=[.list (ns.map .int)] }=true:=by
   have h4:=(holds_andW hc).1
   rw [hn] at h4
   exact h4
  have h5:=condW_of h4 (w_not (w_lt w_lit (w_len_list (w_arg rfl))))
  rw [List.length_map] at h5
  refine Nat.le_of_not_lt fun q=>?_
  have q':(n:Int) < ((ns.length:Nat):Int):=by omega
  first
   | (rw [decide_eq_true q'] at h5;exact absurd h5 (by decide))
   | (simp at h5;omega)
 cases hwl with
 | cons w1 w2 =>
  cases w2
  cases w1 with
  | list ho hall=>exact ⟨_,_,ns,rfl,rfl,ho,ints_of_wellAll ns _ hall,hlen⟩
theorem post_true (l:OpenLaw) (args:List WData):l.row.toRowW.claim.post args (.bool true) args=true :=
 postW_of (r:=l.row.toRowW) (X:=(true == true))
  (show WShape.has [] (.bool true) .bool=true by first | rfl | decide | simp [WShape.has,WShape.arms,WShape.armsAll])
  (show (WTm.eq .res (.lit (.bool true))).value [] { args:=args,res:=some (.bool true),after:=args }=some (.bool (true == true)) from w_eq_bool (w_res rfl) w_lit) rfl
theorem attach_call {l:OpenLaw} {n:Nat} {q:Program} {loose:List Str} {XP:(Str->Option Value)->Heap->Prop} {YP:World->Heap->Prop} {d:DefRec}
  (hn:l.most=some n) (hdf:d.params.defaults=[])
  (call:∀ (w:World) (s₀ s₁:Shared) (mg mb:Str->Option Value) (fa:Addr) (o:Obj) (pm cd doc:Value) (a:Addr) (vs:List Value) (ns:List Int),
   Ground q loose [] XP w s₀ mg mb s₁.heap->YP w s₁.heap ->
   s₁.heap.get? fa=some o->o.data=.func (docDef d.name d.params d.body d.scope pm cd doc)->s₁.heap.CodeRec cd d.name->mg d.name=some (.ref fa) ->
   s₁.heap.get? a=some { cls:=.type "list",data:=.seq vs.toArray }->IntsAre vs ns->ns.length<=n->s₁.gens=#[] ->
   codeAny (model l.prog w) callerA (.call (.ref fa) ⟨[.ref a],[]⟩) (fun r s'=>r=.ok (.ret (.bool true))/\OldK s₁.heap s'.heap/\s'.os=s₁.os/\AllBare s'.gens) s₁) :
  WalkO q loose XP YP l.row.toRowW d [] (fun f vs=>PySem.call f vs):=by
 intro w s₀ s₁ mg mb G Y fa o pm cd doc dV kV ho hd hcd hD hmg hg args vals as hpre hlay hrd hwl hlo
 obtain rfl:dV=.none:=Dflts.none hD hdf
 obtain rfl:kV=.none:=Dflts.noKw hD
 obtain ⟨a,vs,ns,rfl,rfl,hobj,hints,hlen⟩:=script_of hn hpre hwl
 refine enter_call (codeAny_mono (call w s₀ s₁ mg mb fa o pm cd doc a vs ns G Y ho (fd_plain hd) hcd hmg hobj hints hlen hg) fun r s' hq=>?_)
 obtain ⟨rfl,h2,h3,h4⟩:=hq
 exact ⟨.inl ⟨.bool true,.bool true,[],rfl,fun _=>rfl,.bool true,post_true l _,fun _=>⟨List.Pairwise.nil,fun _ hm=>(nomatch hm)⟩⟩,h2,h3,h4⟩
section
variable {prog:Program} {w:World} {A:Around} {E:Value->Shared->Prop} {s:Shared} {K:Frag}
def ledger (h:Heap) (L d:Addr):List (Addr × Obj):=(List.range h.objs.size).filterMap fun a=>if a=L\/a=d then none else (h.get? a).map fun o=>(a,o)
end
end Att
namespace L2
open PySem PySem.Spec PyProof.Rows
theorem vals_ints:∀ {vs:List Value} {ns:List Int},IntsAre vs ns->Vals (ns.map V.int) vs
 | _,_,.nil=>.nil
 | _,_,.cons n t h=>.cons ⟨t,rfl⟩ (vals_ints h)
def Only (H:Hp):Prop:=∀ b,H b=none\/∃ o xs,H b=some (.frz o (.lst xs))
theorem law_call {P:Program} {w:World} {K:PySem.W.Frag} {mg mb:Str->Option Value} {CX:CXT} {k:Nat} {fa a:Addr} {fd:FuncData} {x:Str} {sp:Sp} {s₁:Shared} {vs:List Value} {ns:List Int}
  (KX:K.In s₁.heap) (hns:s₁.heap.Ns mainGlobals mg) (hb:s₁.heap.Ns builtinsNs mb) (hbb:∀ x:Str,x≠"__name__" -> mb x=bootBuiltins x) (hlim:s₁.heap.NoLimit) (hg:s₁.gens=#[])
  (ha:s₁.heap.get? a=some { cls:=.type "list",data:=.seq vs.toArray }) (hi:IntsAre vs ns) (hl:ns.length<=sizeLine) (hr:Room k callerA)
  (F:∀ base:Heap,K.In base->base.Ns mainGlobals mg->FnOk P w K mg base CX k fa fd [x] sp) (hbind:∀ (s:Shared) (u:Value),BindsTo s fd ⟨[u],[]⟩ [(x,u)])
  (hsp:∀ H:Hp,Only H->SqL K H a (ns.map V.int)->sp [.ref a] H (fun v _=>v=.bl true) fun _ _ _=>False)
  (hCX:∀ H e s',CX [] H s₁ (fun _ _ _=>False) e s'->False) :
  codeAny (model P w) callerA (.call (.ref fa) ⟨[.ref a],[]⟩) (fun r s'=>r=.ok (.ret (.bool true))/\OldK s₁.heap s'.heap/\s'.os=s₁.os/\AllBare s'.gens) s₁:=by
 have rv:=vals_ints hi
 have lenV:=hi.length
 have core:∀ H:Hp,Only H->SqL K H a (ns.map V.int)->HOk P w H s₁.heap->(∀ b,H b≠none->b=a)->(H a≠none->K.lookup a=none) ->
   codeAny (model P w) callerA (.call (.ref fa) ⟨[.ref a],[]⟩) (fun r s'=>r=.ok (.ret (.bool true))/\OldK s₁.heap s'.heap/\s'.os=s₁.os/\AllBare s'.gens) s₁:=by
  intro H hO hS hok hA hK
  have base_of:∀ {b:Addr} {o:Obj},s₁.heap.get? b=some o->H b=none->(hidT s₁.heap H).get? b=some o:=fun e n=>hidT_get e n
  have noA:∀ {b:Addr} {o:Obj} {es:Array DictEntry} {ep:Nat},s₁.heap.get? b=some o->o.data=.dict es ep->H b=none:=fun {b o es ep} e d=>by
   cases q:H b with
   | none=>rfl
   | some u =>
    have e':b=a:=hA b (by rw [q];simp)
    subst e'
    rw [ha] at e;cases e
    have d':Data.seq vs.toArray _=Data.dict es ep:=d
    cases d'
  have nsK:∀ {b:Addr} {m:Str->Option Value},s₁.heap.Ns b m->(hidT s₁.heap H).Ns b m:=fun {b m} ⟨o,es,ep,e,d,r⟩=>⟨o,es,ep,base_of e (noA e d),d,r⟩
  have hKb:K.In (hidT s₁.heap H):=fun b o e=>base_of (KX b o e) (by
   cases q:H b with
   | none=>rfl
   | some u =>
    have e':b=a:=hA b (by rw [q];simp)
    subst e'
    rw [hK (by rw [q];simp)] at e;cases e)
  have hM:Mod K mg (hidT s₁.heap H):=⟨hKb,nsK hns,⟨mb,nsK hb,hbb⟩,let ⟨mc,h1,h2⟩:=hlim;⟨mc,nsK h1,h2⟩⟩
  have e0:Env0 P w K mg (hidT s₁.heap H) callerA [] s₁ H:=⟨rfl,hM,fun b o e=>of_hidT e,Nat.le_of_eq (hidT_size _ _),trivial,fun b hb=>absurd (show b∈([]:List Addr) from hb) (by simp),hok,.of_eq hg⟩
  refine codeAny_mono ((F _ hKb (nsK hns)).run callerA [] s₁ H ⟨[.ref a],[]⟩ [.ref a] [.ref a] _ _ hr e0 (hbind s₁ (.ref a)) (.cons rfl .nil) (hsp H hO hS)) fun r s' h=>?_
  cases r with
  | error e=>exact (hCX H e s' h).elim
  | ok fl =>
   cases fl with
   | next=>exact False.elim h
   | brk=>exact False.elim h
   | cont=>exact False.elim h
   | ret u =>
    obtain ⟨v,H',os,bare,un,hok',r',q⟩:=h
    have q':v=.bl true:=q
    subst q'
    obtain rfl:u=Value.bool true:=r'
    refine ⟨rfl,OldK.of_keep fun b o e=>?_,os,bare⟩
    cases q:H b with
    | none=>exact un.keep b o e q (by intro z;exact absurd (show b∈([]:List Addr) from z) (by simp)) (by simp)
    | some u =>
     rcases hO b with z | ⟨ob,xs,z⟩
     ·rw [q] at z;cases z
     ·have z2:=un.frzs b ob _ z
      obtain ⟨e1,_⟩:=hok b _ z
      obtain ⟨e2,_⟩:=hok' b _ z2
      rw [e] at e1;cases e1
      exact e2
 cases hk:K.lookup a with
 | some o =>
  have e:=KX a o hk
  rw [ha] at e
  cases e
  refine core (fun _=>none) (fun _=>.inl rfl) (.inr ⟨_,vs.toArray,_,hk,rfl,rfl,rfl,by rw [List.size_toArray,lenV];exact hl,by simpa using rv⟩) (fun b u z=>by have z':(none:Option HO)=some u:=z;cases z') (fun b z=>absurd rfl z) fun z=>absurd rfl z
 | none =>
  refine core (fun b=>if b=a then some (.frz { cls:=.type "list",data:=.seq vs.toArray } (.lst (ns.map V.int))) else none) (fun b=>?_) (.inl (.inr ⟨{ cls:=.type "list",data:=.seq vs.toArray },if_pos rfl⟩)) (fun b u z=>?_) (fun b z=>?_) fun _=>hk
  ·by_cases hb:b=a
   ·exact .inr ⟨_,_,if_pos hb⟩
   ·exact .inl (if_neg hb)
  ·by_cases hb:b=a
   ·have z':=(if_pos hb).symm.trans z
    cases z'
    subst hb
    exact ⟨ha,by rw [List.length_map];exact hl,vs,_,rv,ha⟩
   ·have z':=(if_neg hb).symm.trans z
    cases z'
  ·by_cases hb:b=a
   ·exact hb
   ·exact absurd (if_neg hb) z
abbrev KOf {K:PySem.W.Frag} {h:Heap} (_:K.In h):PySem.W.Frag:=K
theorem walk_of {l:PySem.W.OpenLaw} {n k:Nat} {q:Program} {loose:List Str} {XP:(Str->Option Value)->Heap->Prop} {YP:World->Heap->Prop} {d:DefRec} {K:Params->PySem.W.Frag} {CX:World->CXT} {sp:World->Sp} {x:Str}
  (hn:l.most=some n) (hn2:n<=sizeLine) (hdf:d.params.defaults=[]) (hr:Room k callerA)
  (hY:∀ (w:World) (h:Heap),YP w h->(K w.params).In h)
  (F:∀ (w:World) (mg:Str->Option Value) (fa:Addr) (h:Heap),(K w.params).In h->h.Ns mainGlobals mg->mg d.name=some (.ref fa) ->
   ∃ fd:FuncData,(∀ (s:Shared) (u:Value),BindsTo s fd ⟨[u],[]⟩ [(x,u)]) /\
    ∀ base:Heap,(K w.params).In base->base.Ns mainGlobals mg->FnOk l.prog w (K w.params) mg base (CX w) k fa fd [x] (sp w))
  (hsp:∀ (w:World) (H:Hp) (a:Addr) (ns:List Int),ns.length<=n->Only H->SqL (K w.params) H a (ns.map V.int)->sp w [.ref a] H (fun v _=>v=.bl true) fun _ _ _=>False)
  (hCX:∀ (w:World) (H:Hp) (s:Shared) (e:Value) (s':Shared),CX w [] H s (fun _ _ _=>False) e s'->False) :
  PySem.W.WalkO q loose XP YP l.row.toRowW d [] (fun f vs=>PySem.call f vs):=by
 refine Att.attach_call hn hdf fun w s₀ s₁ mg mb fa o pm cd doc a vs ns G Y ho hd hcd hmg hobj hints hlen hg=>?_
 have KX:=hY w _ Y
 obtain ⟨fd,hb,hF⟩:=F w mg fa _ KX G.T.g hmg
 exact law_call KX G.T.g G.T.b G.T.builtins G.T.nolimit hg hobj hints (Nat.le_trans hlen hn2) hr hF hb (fun H hO hS=>hsp w H a ns hlen hO hS) fun H e s'=>hCX w H s₁ e s'
def inClass (s:Stmt) (j:Nat):Stmt:=match s with
 | .ClassDef _ _ _ body _ _ _ _ _ _ _=>body.getD j (.Pass ⟨0,0,0,0⟩)
 | _=>.Pass ⟨0,0,0,0⟩
def defArgs (s:Stmt):Arguments:=match s with
 | .FunctionDef _ a _ _ _ _ _ _ _ _=>a
 | _=>{ posonlyargs:=[],args:=[],vararg:=none,kwonlyargs:=[],kw_defaults:=[],kwarg:=none,defaults:=[] }
def defBody (s:Stmt):List Stmt:=match s with
 | .FunctionDef _ _ b _ _ _ _ _ _ _=>b
 | _=>[]
def defScope (s:Stmt):Scope:=match s with
 | .FunctionDef _ _ _ _ _ _ sc _ _ _=>sc
 | _=>{ kind:=.function,names:=[],isGenerator:=false,isCoroutine:=false }
abbrev CX0:CXT:=fun _ _ _ _ _ _=>False
abbrev E0:XK:=fun _ _ _=>False
theorem pass0 {X:Cx}:Passes CX0 X E0:=fun _ _ _ _ _ _ _ h=>h.elim
structure Fun (K:PySem.W.Frag) (x qual:Str) (st:Stmt) (f:Addr) (fd:FuncData):Prop where
 ex:∃ (oc:Value) (od:Option Addr) (kV doc pm:Value) (an:Option Addr) (cdv ct:Value) (osl:Array (Option Value)),
  fd=PySem.W.fnOf x qual (defArgs st) (defBody st) (defScope st) .none kV doc pm an cdv ct/\K.lookup f=some ⟨oc,od,.func fd,osl⟩/\PySem.W.codeIn K cdv qual=true
 kp:PySem.W.keepIn K (.ref f)=true
section
variable {P:Program} {w:World} {K:PySem.W.Frag} {mg:Str->Option Value} {base:Heap}
theorem Fun.ok {x qual:Str} {st:Stmt} {f:Addr} {fd:FuncData} {N ps:List Str} {k:Nat} {sp:Sp} (F:Fun K x qual st f fd) (S:FnScope N ps (defScope st)) (len:∀ vs H Q E,sp vs H Q E->vs.length=ps.length)
  (hbody:∀ (cdv:Value) (A:Around) (outer:List Env) (s:Shared) (H:Hp) (vs:List V) (Q:VK) (E:XK),Room k (A.deeper (envOfC qual (defScope st) s.heap.objs.size f cdv))->sp vs H Q E ->
   ∃ t,PSs (cxOf CX0 P w K mg base N qual (defScope st) f cdv A outer s H E).nox (defBody st) t/\t { nx:=fun _ H'=>Q .non H',rt:=Q } (start N vs) H):FnOk P w K mg base CX0 (k+1) f fd ps sp:=by
 obtain ⟨oc,od,kV,doc,pm,an,cdv,ct,osl,rfl,lk,hcd⟩:=F.ex
 refine fn_of lk hcd S len fun A outer s H vs Q E hr hsp=>?_
 obtain ⟨t,h,q⟩:=hbody cdv A outer s H vs Q E hr hsp
 exact ⟨t,h.nox,q⟩
theorem Fun.binds {x qual:Str} {st:Stmt} {f:Addr} {fd:FuncData} {ps:List Str} (F:Fun K x qual st f fd)
  (h:∀ (kV doc pm:Value) (an:Option Addr) (cdv ct:Value) (us:List Value),us.length=ps.length->bindArgs (PySem.W.fnOf x qual (defArgs st) (defBody st) (defScope st) .none kV doc pm an cdv ct) ⟨us,[]⟩=pure (ps.zip us)):Binds K fd ps []:=by
 obtain ⟨oc,od,kV,doc,pm,an,cdv,ct,osl,rfl,lk,hcd⟩:=F.ex
 exact .all (h kV doc pm an cdv ct)
theorem fun_mk {x qual:Str} {st:Stmt} {f:Addr} {oc:Value} {od an:Option Addr} {osl:Array (Option Value)} {kV doc pm cdv ct:Value} (l:K.lookup f=some ⟨oc,od,.func (PySem.W.fnOf x qual (defArgs st) (defBody st) (defScope st) .none kV doc pm an cdv ct),osl⟩)
  (c:W.codeIn K cdv qual=true) (k:W.keepIn K (.ref f)=true):Fun K x qual st f (W.fnOf x qual (defArgs st) (defBody st) (defScope st) .none kV doc pm an cdv ct):=⟨⟨oc,od,kV,doc,pm,an,cdv,ct,osl,rfl,l,c⟩,k⟩
end
theorem hu_of {A:Around} {k:Nat} (hr:Room k A):A.units+1 < cLine:=Nat.lt_of_le_of_lt (Nat.add_le_add_left (by decide:1<=64) _) hr.units
theorem small1000 {n:Nat} (h:n<=1000):n < sizeLine:=Nat.lt_of_le_of_lt h (by decide)
section
variable {X:Cx}
theorem pv (i:Nat) {x:Str} {pos:Pos} (hN:X.N[i]?=some x:=by rfl) (hv:Vis X.env.scope x:=by first | exact Or.inl rfl | exact Or.inr (Or.inl rfl) | exact Or.inr (Or.inr rfl)) (hd:(x == ("__debug__" : Str))=false:=by decide)
  (hcd:(x == ("__classdict__" : Str))=false:=by decide):PE X (.Name x pos) (tVar i):=pe_var hN hv hd hcd
end
theorem iteF {A B:Prop} (h:B):if false=true then A else B:=by
 rw [if_neg Bool.false_ne_true]
 exact h
theorem iteT {A B:Prop} (h:A):if true=true then A else B:=by
 rw [if_pos rfl]
 exact h
theorem ite2 {c A B:Prop} [Decidable c] (h1:c->A) (h2:¬ c->B):if c then A else B:=by
 by_cases h:c
 ·rw [if_pos h]
  exact h1 h
 ·rw [if_neg h]
  exact h2 h
def Same (H H':Hp):Prop:=∀ b o,H b=some o->H' b=some o
theorem Same.refl (H:Hp):Same H H:=fun _ _ h=>h
theorem Same.trans {H H1 H2:Hp} (a:Same H H1) (b:Same H1 H2):Same H H2:=fun c o h=>b c o (a c o h)
theorem Same.free {H H':Hp} (e:Same H H') {l:Addr} (h:H' l=Option.none):H l=Option.none:=by
 cases q:H l with
 | none=>rfl
 | some o =>
  rw [e l o q] at h
  cases h
end L2
set_option maxHeartbeats 4000000
namespace L2
open PySem PySem.Spec PyProof.Rows
section
variable {κ:Type} [DecidableEq κ]
def valV (kvs:List (κ × V)) (k:κ):Option V:=(kvs.find? fun kv=>decide (kv.1=k)).map (·.2)
def putK (kvs:List (κ × V)) (k:κ) (v:V):List (κ × V) :=
 if (kvs.any fun kv=>decide (kv.1=k))=true then kvs.map (fun kv=>if kv.1=k then (kv.1,v) else kv) else kvs++[(k,v)]
theorem valV_pos {p:κ × V} {r:List (κ × V)} {k:κ} (e:p.1=k):valV (p::r) k=some p.2:=by simp [valV,List.find?_cons,e]
theorem valV_neg {p:κ × V} {r:List (κ × V)} {k:κ} (e:¬ p.1=k):valV (p::r) k=valV r k:=by simp [valV,List.find?_cons,e]
theorem valV_any (k:κ):∀ kvs:List (κ × V),(kvs.any fun kv=>decide (kv.1=k))=(valV kvs k).isSome
 | []=>rfl
 | p::r=>by
  rw [List.any_cons]
  by_cases e:p.1=k
  ·simp only [valV_pos e,decide_eq_true e,Bool.true_or,Option.isSome_some]
  ·rw [valV_neg e,decide_eq_false e,Bool.false_or];exact valV_any k r
theorem valV_map (k j:κ) (y:V):∀ kvs:List (κ × V),valV (kvs.map fun kv=>if kv.1=k then (kv.1,y) else kv) j=(valV kvs j).map fun x=>if j=k then y else x
 | []=>rfl
 | p::r=>by
  have ih:=valV_map k j y r
  rw [List.map_cons]
  by_cases h:p.1=k
  ·rw [if_pos h]
   by_cases e:p.1=j
   ·rw [valV_pos (p:=(p.1,y)) e,valV_pos e,Option.map_some,if_pos (e.symm.trans h)]
   ·rw [valV_neg (p:=(p.1,y)) e,valV_neg e,ih]
  ·rw [if_neg h]
   by_cases e:p.1=j
   ·rw [valV_pos (p:=p) e,valV_pos e,Option.map_some,if_neg (fun z=>h (e.trans z))]
   ·rw [valV_neg (p:=p) e,valV_neg e,ih]
theorem valV_snoc (k j:κ) (y:V):∀ kvs:List (κ × V),valV kvs k=none->valV (kvs++[(k,y)]) j=if j=k then some y else valV kvs j
 | [],_=>by
  by_cases e:k=j
  ·rw [if_pos e.symm];exact valV_pos (p:=(k,y)) e
  ·rw [if_neg (fun z=>e z.symm)];exact valV_neg (p:=(k,y)) e
 | p::r,hn=>by
  rw [List.cons_append]
  have hk:¬ p.1=k:=fun z=>by rw [valV_pos z] at hn;cases hn
  rw [valV_neg hk] at hn
  have ih:=valV_snoc k j y r hn
  by_cases e:p.1=j
  ·rw [valV_pos e,valV_pos e,if_neg (fun z=>hk (e.trans z))]
  ·rw [valV_neg e,valV_neg e,ih]
theorem valV_put (kvs:List (κ × V)) (k j:κ) (y:V):valV (putK kvs k y) j=if j=k then some y else valV kvs j:=by
 unfold putK
 by_cases a:(kvs.any fun kv=>decide (kv.1=k))=true
 ·rw [if_pos a,valV_map]
  rw [valV_any] at a
  by_cases e:j=k
  ·obtain ⟨x,hx⟩:=Option.isSome_iff_exists.mp a
   rw [if_pos e,e,hx,Option.map_some,if_pos rfl]
  ·rw [if_neg e]
   cases valV kvs j with
   | none=>rfl
   | some x=>rw [Option.map_some,if_neg e]
 ·rw [if_neg a]
  refine valV_snoc k j y kvs ?_
  rw [valV_any] at a
  cases q:valV kvs k with
  | none=>rfl
  | some x=>rw [q] at a;exact (a rfl).elim
theorem length_putK (kvs:List (κ × V)) (k:κ) (v:V):(putK kvs k v).length<=kvs.length+1:=by
 unfold putK
 split
 ·rw [List.length_map];omega
 ·rw [List.length_append,List.length_cons,List.length_nil];omega
theorem putK_new {kvs:List (κ × V)} {k:κ} (v:V) (h:valV kvs k=none):putK kvs k v=kvs++[(k,v)]:=by
 unfold putK
 rw [valV_any,h]
 exact if_neg (by decide)
theorem RelO.isSome_eq {o:Option V} {u:Option Value} (r:RelO o u):o.isSome=u.isSome:=by
 cases o with
 | none=>cases u with
  | none=>rfl
  | some _=>exact (show False from r).elim
 | some _=>cases u with
  | none=>exact (show False from r).elim
  | some _=>rfl
theorem KV.val {kvs:List (κ × V)} {vs:List (κ × Value)} (r:KV kvs vs) (k:κ):RelO (valV kvs k) (valueAt vs k):=by
 unfold KV at r
 induction r with
 | nil=>exact True.intro
 | @cons p q ps qs h t ih =>
  obtain ⟨h1,h2⟩:=h
  by_cases e:p.1=k
  ·have e':q.1=k:=h1.symm.trans e
   have b:valueAt (q::qs) k=some q.2:=by simp [valueAt,List.find?_cons,e']
   rw [valV_pos e,b];exact h2
  ·have e':¬ q.1=k:=fun z=>e (h1.trans z)
   have b:valueAt (q::qs) k=valueAt qs k:=by simp [valueAt,List.find?_cons,e']
   rw [valV_neg e,b];exact ih
theorem KV.any {kvs:List (κ × V)} {vs:List (κ × Value)} (r:KV kvs vs) (k:κ):(kvs.any fun kv=>decide (kv.1=k))=vs.any fun kv=>decide (kv.1=k):=by
 unfold KV at r
 induction r with
 | nil=>rfl
 | cons h t ih=>rw [List.any_cons,List.any_cons,ih,h.1]
theorem KV.repl {kvs:List (κ × V)} {vs:List (κ × Value)} (r:KV kvs vs) (k:κ) {y:V} {u:Value} (ry:RelV y u) :
  KV (kvs.map fun kv=>if kv.1=k then (kv.1,y) else kv) (vs.map fun kv=>if kv.1=k then (kv.1,u) else kv):=by
 unfold KV at r ⊢
 induction r with
 | nil=>exact .nil
 | @cons p q ps qs h t ih =>
  rw [List.map_cons,List.map_cons]
  refine .cons ?_ ih
  obtain ⟨h1,h2⟩:=h
  by_cases e:p.1=k
  ·rw [if_pos e,if_pos (h1.symm.trans e)];exact ⟨h1,ry⟩
  ·rw [if_neg e,if_neg (fun z=>e (h1.trans z))];exact ⟨h1,h2⟩
theorem KV.put {kvs:List (κ × V)} {vs:List (κ × Value)} (r:KV kvs vs) (k:κ) {y:V} {u:Value} (ry:RelV y u):KV (putK kvs k y) (stored vs k u):=by
 unfold putK stored
 rw [r.any k]
 by_cases e:(vs.any fun kv=>decide (kv.1=k))=true
 ·rw [if_pos e,if_pos e];exact r.repl k ry
 ·rw [if_neg e,if_neg e];exact Paired.snoc r ⟨rfl,ry⟩
theorem KV.keys {kvs:List (κ × V)} {vs:List (κ × Value)} (r:KV kvs vs):kvs.map (·.1)=vs.map (·.1):=by
 unfold KV at r
 induction r with
 | nil=>rfl
 | cons h t ih=>rw [List.map_cons,List.map_cons,ih,h.1]
theorem KV.length {kvs:List (κ × V)} {vs:List (κ × Value)} (r:KV kvs vs):kvs.length=vs.length:=Paired.length r
end
theorem kV_is {P:Program} {w:World} {k:Key} {u:Value} (r:RelV (kV k) u):(mixKind P w).is k u=true:=by
 cases k with
 | inl i=>obtain ⟨t,e⟩:=(show ∃ t,u=Value.int i t from r);subst e;exact mixKind_int P w i t
 | inr x=>obtain ⟨t,e⟩:=(show ∃ t,u=Value.str x t from r);subst e;exact mixKind_str P w x t
theorem items_are {P:Program} {w:World}:∀ {ks:List Key} {us:List Value},Vals (ks.map kV) us->ItemsAre (mixKind P w) ks us
 | [],_,r=>by rw [List.map_nil] at r;cases r;exact .nil
 | k::ks,_,r=>by
  rw [List.map_cons] at r
  cases r with
  | cons h t=>exact .cons (kV_is h) (items_are t)
abbrev KT (H:Hp):List (List Key × V)->List (List Key × Addr × Value)->Prop:=Paired fun p q=>p.1=q.1/\H q.2.1=some (.tup (p.1.map kV))/\RelV p.2 q.2.2
theorem KT.val {H:Hp} {kvs:List (List Key × V)} {xs:List (List Key × Addr × Value)} (r:KT H kvs xs) (k:List Key):RelO (valV kvs k) ((atKey xs k).map (·.2)):=by
 induction r with
 | nil=>exact True.intro
 | @cons p q ps qs h t ih =>
  obtain ⟨h1,_,h2⟩:=h
  by_cases e:p.1=k
  ·have e':q.1=k:=h1.symm.trans e
   have b:atKey (q::qs) k=some q.2:=by simp [atKey,List.find?_cons,e']
   rw [valV_pos e,b];exact h2
  ·have e':¬ q.1=k:=fun z=>e (h1.trans z)
   have b:atKey (q::qs) k=atKey qs k:=by simp [atKey,List.find?_cons,e']
   rw [valV_neg e,b];exact ih
theorem KT.repl {H:Hp} {kvs:List (List Key × V)} {xs:List (List Key × Addr × Value)} (r:KT H kvs xs) (k:List Key) {y:V} {u:Value} (ry:RelV y u) :
  KT H (kvs.map fun kv=>if kv.1=k then (kv.1,y) else kv) (xs.map (putAt k u)):=by
 induction r with
 | nil=>exact .nil
 | @cons p q ps qs h t ih =>
  rw [List.map_cons,List.map_cons]
  refine .cons ?_ ih
  obtain ⟨h1,h2,h3⟩:=h
  unfold putAt
  by_cases e:p.1=k
  ·rw [if_pos e,if_pos (h1.symm.trans e)];exact ⟨h1,h2,ry⟩
  ·rw [if_neg e,if_neg (fun z=>e (h1.trans z))];exact ⟨h1,h2,h3⟩
theorem KT.put {H:Hp} {kvs:List (List Key × V)} {xs:List (List Key × Addr × Value)} (r:KT H kvs xs) (k:List Key) {b:Addr} {y:V} {u:Value} (hb:H b=some (.tup (k.map kV))) (ry:RelV y u) :
  KT H (putK kvs k y) (storedH xs k b u):=by
 have e:(kvs.any fun kv=>decide (kv.1=k))=(atKey xs k).isSome:=by
  rw [valV_any,(r.val k).isSome_eq,Option.isSome_map]
 unfold putK storedH
 rw [e]
 by_cases q:(atKey xs k).isSome=true
 ·rw [if_pos q,if_pos q];exact r.repl k ry
 ·rw [if_neg q,if_neg q];exact Paired.snoc r ⟨rfl,hb,ry⟩
theorem KT.keeps {H H':Hp} {kvs:List (List Key × V)} {xs:List (List Key × Addr × Value)} (r:KT H kvs xs) (ht:∀ b ys,H b=some (.tup ys)->H' b=some (.tup ys)):KT H' kvs xs :=
 Paired.mapP r fun _ _ z=>⟨z.1,ht _ _ z.2.1,z.2.2⟩
section
variable {P:Program} {w:World} {H:Hp} {h:Heap} {a:Addr}
theorem rd_of {u:HO} (ok:HOk P w H h) (e:Rd H a u):ObjOk P w H h a u:=e.ok ok
theorem dk_rd {kvs:List (Key × V)} (ok:HOk P w H h) (e:Rd H a (.dK kvs)):kvs.length<=sizeLine/\(a == sysModules)=false/\∃ vs,KV kvs vs/\h.DictOf (mixKind P w) a vs :=
 show ObjOk P w H h a (.dK kvs) from rd_of ok e
theorem dk_of {kvs:List (Key × V)} (ok:HOk P w H h) (e:H a=some (.dK kvs)):kvs.length<=sizeLine/\(a == sysModules)=false/\∃ vs,KV kvs vs/\h.DictOf (mixKind P w) a vs:=dk_rd ok (.inl e)
theorem key_of {ks:List Key} (ok:HOk P w H h) (e:H a=some (.tup (ks.map kV))):(tupleKind (mixKind P w)).is h ks a:=by
 obtain ⟨_,its,r,o,h1,h2,n,h3⟩:=(show ObjOk P w H h a (.tup (ks.map kV)) from ok a _ e)
 exact ⟨o,its.toArray,n,h1,h2,h3,by simpa using items_are r⟩
theorem dt_rd {kvs:List (List Key × V)} (ok:HOk P w H h) (e:Rd H a (.dT kvs)):kvs.length<=sizeLine/\(a == sysModules)=false /\
  ∃ xs,KT H kvs xs/\h.DictOfH (tupleKind (mixKind P w)) a xs:=by
 obtain ⟨z,y,xs,r,o,es,ep,h1,h2,h3,h4,h5⟩:=(show ObjOk P w H h a (.dT kvs) from rd_of ok e)
 refine ⟨z,y,xs,r,o,es,ep,h1,h2,h3,h4,fun x hx=>?_,h5⟩
 have all:∀ {l:List (List Key × V)} {m:List (List Key × Addr × Value)},KT H l m->∀ x∈m,(tupleKind (mixKind P w)).is h x.1 x.2.1:=by
  intro l m q
  induction q with
  | nil=>intro x hx;exact nomatch hx
  | @cons p q ps qs hq t ih =>
   intro x hx
   rcases List.mem_cons.mp hx with e | hx
   ·subst e
    exact key_of ok (by rw [<- hq.1];exact hq.2.1)
   ·exact ih x hx
 exact all r x hx
theorem dt_of {kvs:List (List Key × V)} (ok:HOk P w H h) (e:H a=some (.dT kvs)):kvs.length<=sizeLine/\(a == sysModules)=false /\
  ∃ xs,KT H kvs xs/\h.DictOfH (tupleKind (mixKind P w)) a xs:=dt_rd ok (.inl e)
end
def DGet (H:Hp) (a:Addr) (y:V) (r:Option V):Prop :=
 (∃ kvs k,Rd H a (.dK kvs)/\y=kV k/\r=valV kvs k)\/∃ kvs k b,Rd H a (.dT kvs)/\y=.ref b/\H b=some (.tup (k.map kV))/\r=valV kvs k
def DPut (H:Hp) (a:Addr) (y v:V) (H':Hp):Prop :=
 (∃ kvs k,H a=some (.dK kvs)/\y=kV k/\kvs.length < sizeLine/\H'=upd H a (.dK (putK kvs k v))) \/
 ∃ kvs k b,H a=some (.dT kvs)/\y=.ref b/\H b=some (.tup (k.map kV))/\kvs.length < sizeLine/\H'=upd H a (.dT (putK kvs k v))
theorem DGet.k {H:Hp} {a:Addr} {kvs:List (Key × V)} {k:Key} (e:H a=some (.dK kvs)):DGet H a (kV k) (valV kvs k):=.inl ⟨kvs,k,.inl e,rfl,rfl⟩
theorem DPut.k {H:Hp} {a:Addr} {kvs:List (Key × V)} {k:Key} {v:V} (e:H a=some (.dK kvs)) (hl:kvs.length < sizeLine):DPut H a (kV k) v (upd H a (.dK (putK kvs k v))):=.inl ⟨kvs,k,e,rfl,hl,rfl⟩
section
variable {X:Cx} {pins:List (Addr × Obj)} {σ:St} {H:Hp} {s:Shared} {a:Addr} {y v:V} {u r:Value} {o:Option V} {A:Around} {E:Value->Shared->Prop}
theorem Inv.big (I:Inv X pins σ H s):sysModules < s.heap.objs.size:=by
 have h:mainGlobals < s.heap.objs.size:=(I.mod.glob.keeps I.bk).lt
 exact Nat.lt_trans (by decide) h
theorem d_getItem {Q:Value->Shared->Prop} (hu:A.units+1 < cLine) (I:Inv X pins σ H s) (g:DGet H a y (some v)) (ry:RelV y u) (h:∀ w' s',Inv X pins σ H s'->RelV v w'->Q w' s') :
  wpAny (model X.prog X.w) A (getItem (.ref a) u) Q E s:=by
 rcases g with ⟨kvs,k,e,ey,l⟩ | ⟨kvs,k,b,e,ey,eb,l⟩
 ·subst ey
  obtain ⟨z,hd,vs,rel,dd⟩:=dk_rd I.hok e
  obtain ⟨w',hw,rw'⟩:=RelO.some_of (v:=v) (o:=valueAt vs k) (by rw [l];exact rel.val k)
  exact wpAny_getItem_of (kV_is ry) dd.mapOf hw (h w' _ (I.tok _) rw')
 ·subst ey
  cases (show u=Value.ref b from ry)
  obtain ⟨z,hd,xs,rel,dd⟩:=dt_rd I.hok e
  obtain ⟨w',hw,rw'⟩:=RelO.some_of (v:=v) (o:=(atKey xs k).map (·.2)) (by rw [l];exact rel.val k)
  obtain ⟨p,hp,hp2⟩:=Option.map_eq_some_iff.mp hw
  refine wpAny_getItem_heap (tupleKind_room_in1 hu) (key_of I.hok eb) dd hp ?_
  rw [hp2]
  exact h w' _ (I.tok _) rw'
theorem d_in {Q:Value->Shared->Prop} (hu:A.units+1 < cLine) (I:Inv X pins σ H s) (g:DGet H a y o) (ry:RelV y u) (h:∀ s',Inv X pins σ H s'->Q (.bool o.isSome) s') :
  wpAny (model X.prog X.w) A (compareOp .In u (.ref a)) Q E s:=by
 rcases g with ⟨kvs,k,e,ey,l⟩ | ⟨kvs,k,b,e,ey,eb,l⟩
 ·subst ey
  obtain ⟨z,hd,vs,rel,dd⟩:=dk_rd I.hok e
  refine wpAny_in_of (kV_is ry) hd dd.mapOf ?_
  rw [<- (rel.val k).isSome_eq,<- l]
  exact h _ (I.tok _)
 ·subst ey
  cases (show u=Value.ref b from ry)
  obtain ⟨z,hd,xs,rel,dd⟩:=dt_rd I.hok e
  refine wpAny_in_heap (tupleKind_room_in1 hu) (key_of I.hok eb) hd dd ?_
  have q:=(rel.val k).isSome_eq
  rw [Option.isSome_map] at q
  rw [<- q,<- l]
  exact h _ (I.tok _)
theorem d_notIn {Q:Value->Shared->Prop} (hu:A.units+1 < cLine) (I:Inv X pins σ H s) (g:DGet H a y o) (ry:RelV y u) (h:∀ s',Inv X pins σ H s'->Q (.bool (!o.isSome)) s') :
  wpAny (model X.prog X.w) A (compareOp .NotIn u (.ref a)) Q E s:=by
 rcases g with ⟨kvs,k,e,ey,l⟩ | ⟨kvs,k,b,e,ey,eb,l⟩
 ·subst ey
  obtain ⟨z,hd,vs,rel,dd⟩:=dk_rd I.hok e
  refine wpAny_notIn_of (kV_is ry) hd dd.mapOf ?_
  rw [<- (rel.val k).isSome_eq,<- l]
  exact h _ (I.tok _)
 ·subst ey
  cases (show u=Value.ref b from ry)
  obtain ⟨z,hd,xs,rel,dd⟩:=dt_rd I.hok e
  refine wpAny_notIn_heap (tupleKind_room_in1 hu) (key_of I.hok eb) hd dd ?_
  have q:=(rel.val k).isSome_eq
  rw [Option.isSome_map] at q
  rw [<- q,<- l]
  exact h _ (I.tok _)
theorem d_write {h':Heap} {t':Nat} {ob:HO} (I:Inv X pins σ H s) (mu:Mut (H a)) (hs:Heap.SameBut a s.heap h') (he:∃ q,h'.get? a=some q) (new:ObjOk X.prog X.w (upd H a ob) h' a ob) :
  Inv X pins σ (upd H a ob) { s with heap:=h',toks:=t' } :=
 I.write (x:=a) (e:=a) mu (.inl rfl) (fun b q hb z=>(hs.2 b hb).trans z) he new
theorem dk_new {P:Program} {w:World} {H':Hp} {h':Heap} {kvs:List (Key × V)} {vs:List (Key × Value)} (z:kvs.length<=sizeLine) (hd:(a == sysModules)=false) (rel:KV kvs vs) (dd:h'.DictOf (mixKind P w) a vs) :
  ObjOk P w H' h' a (.dK kvs):=⟨z,hd,vs,rel,dd⟩
theorem d_setItem {H':Hp} {Q:Unit->Shared->Prop} (hu:A.units+1 < cLine) (I:Inv X pins σ H s) (g:DPut H a y v H') (ry:RelV y u) (rv:RelV v r) (h:∀ s',Inv X pins σ H' s'->Q () s') :
  wpAny (model X.prog X.w) A (setItem (.ref a) u r) Q E s:=by
 rcases g with ⟨kvs,k,e,ey,l,eH⟩ | ⟨kvs,k,b,e,ey,eb,l,eH⟩
 ·subst ey eH
  obtain ⟨z,hd,vs,rel,dd⟩:=dk_of I.hok e
  have hz:vs.length<=sizeLine:=by rw [<- rel.length];exact z
  have hl:(putK kvs k v).length<=sizeLine:=by have:=length_putK kvs k v;omega
  refine wpAny_setItem_pairs (hsz:=hz) (kV_is ry) dd fun h' dd' hs=>h _ ?_
  have he:∃ q,h'.get? a=some q:=let ⟨q,_,_,hq,_⟩:=dd';⟨q,hq⟩
  exact d_write I (by rw [e];exact True.intro) hs he (dk_new hl hd (rel.put k rv) dd')
 ·subst ey eH
  cases (show u=Value.ref b from ry)
  obtain ⟨z,hd,xs,rel,dd⟩:=dt_of I.hok e
  have hz:xs.length<=sizeLine:=by rw [<- Paired.length rel];exact z
  have hl:(putK kvs k v).length<=sizeLine:=by have:=length_putK kvs k v;omega
  refine wpAny_setItem_heap (hsz:=hz) (tupleKind_room_in1 hu) (key_of I.hok eb) dd fun h' dd' hs=>h _ ?_
  obtain ⟨q,es,ep,hq,h2,h3,h4,_,h5⟩:=dd'
  refine d_write I (by rw [e];exact True.intro) hs ⟨q,hq⟩ ⟨hl,hd,_,(rel.put k eb rv).keeps fun c ys ec=>?_,q,es,ep,hq,h2,h3,h4,h5⟩
  rw [upd_ne (ne_of ec e (fun z=>nomatch z))]
  exact ec
end
section
variable {X:Cx} {pins:List (Addr × Obj)} {σ:St} {H:Hp} {s:Shared} {a:Addr} {kvs:List (Key × V)} {k:Key} {u:Value} {A:Around} {E:Value->Shared->Prop}
end
def NoSl (i:Expr):Prop:=∀ ov iv,subscripted i false ov iv=operate [ov,iv] (getItem ov iv)
theorem subD_of {prog:Program} {w:World} {A:Around} {E:Value->Shared->Prop} {s:Shared} {env:Env} {value slice:Expr} {pos:Pos} {T id:String} {Q:Value->Shared->Prop}
  (hl:typeLookup (.type T) "__getitem__" = pure (some (.builtin id))) (hs:NoSl slice)
  (h:wpAny (model prog w) A (eval value env) (fun o s₁=>wpAny (model prog w) A (eval slice env) (fun i s₂=>s₂.TypeIs o T/\wpAny (model prog w) A (getItem o i) Q E s₂) E s₁) E s) :
  wpAny (model prog w) A (eval (.Subscript value slice pos) env) Q E s:=by
 refine Subscript_ (wpAny_mono h (fun o s₁ h₁=>wpAny_mono h₁ (fun i s₂ h₂=>?_) fun _ _ x=>x) fun _ _ x=>x)
 obtain ⟨hT,h₂⟩:=h₂
 unfold subscriptTail
 refine wpAny_bind ?_
 rw [getitemInPython_of_ne hT.not_modules]
 refine wpAny_bind (wpAny_specialOf hT hl ?_)
 have fin:wpAny (model prog w) A (subscripted slice false o i) (fun r s₃=>wpAny (model prog w) A (letTemporaryGo value o r >>= fun _=>pure r) Q E s₃) E s₂:=by
  rw [hs o i]
  exact wpAny_operating (wpAny_mono h₂ (fun r s₃ h₃=>wpAny_bind (wpAny_letTemporaryGo (wpAny_pure h₃))) fun _ _ x=>x)
 first
  | exact wpAny_pure (wpAny_bind fin)
  | exact wpAny_bind (wpAny_pure (wpAny_bind fin))
  | exact wpAny_bind fin
theorem dict_typeIs {X:Cx} {pins:List (Addr × Obj)} {σ:St} {H:Hp} {s:Shared} {a:Addr} {y:V} {o:Option V} (I:Inv X pins σ H s) (g:DGet H a y o):s.TypeIs (.ref a) "dict" := by
 rcases g with ⟨kvs,k,e,_,_⟩ | ⟨kvs,k,b,e,_,_,_⟩
 ·obtain ⟨_,_,vs,_,dd⟩:=dk_rd I.hok e
  exact dd.typeIs
 ·obtain ⟨_,_,xs,_,dd⟩:=dt_rd I.hok e
  exact dd.typeIs
def tDGet (td ty:TE):TE:=fun σ H Q=>td σ H fun x H1=>ty σ H1 fun y H2=>∃ a v,x=.ref a/\DGet H2 a y (some v)/\Q v H2
def tDIn (ty td:TE):TE:=fun σ H Q=>ty σ H fun y H1=>td σ H1 fun x H2=>∃ a o,x=.ref a/\DGet H2 a y o/\Q (.bl o.isSome) H2
def tDNotIn (ty td:TE):TE:=fun σ H Q=>ty σ H fun y H1=>td σ H1 fun x H2=>∃ a o,x=.ref a/\DGet H2 a y o/\Q (.bl (!o.isSome)) H2
def sDPut (td ty tv:TE):TS:=fun D σ H=>tv σ H fun v H1=>td σ H1 fun x H2=>ty σ H2 fun y H3=>∃ a H4,x=.ref a/\DPut H3 a y v H4/\D.nx σ H4
section
variable {X:Cx} {o i e value:Expr} {pos pos' tpos:Pos} {td ty tv:TE}
theorem pe_dget (hu:X.A.units+1 < cLine) (ho:PE X o td) (hi:PE X i ty) (hs:NoSl i):PE X (.Subscript o i pos) (tDGet td ty):=by
 intro pins s σ H Q I h
 refine subD_of PySem.F.slot_dict_getitem.lookup hs (thn (ho pins s σ H _ I h) fun u s1 ⟨x,H1,I1,rx,q1⟩=>thn (hi pins s1 σ H1 _ I1 q1) fun iv s2 ⟨y,H2,I2,ry,a,v,ex,g,q2⟩=>?_)
 subst ex
 obtain rfl:u=Value.ref a:=rx
 exact ⟨dict_typeIs I2 g,d_getItem hu I2 g ry fun w' s3 I3 rw'=>⟨v,H2,I3,rw',q2⟩⟩
theorem pc_din (hu:X.A.units+1 < cLine) (hi:PE X i ty) (ho:PE X o td):PC X .In i o (tDIn ty td):=by
 intro pins s σ H Q I h
 refine thn (hi pins s σ H _ I h) fun iv s1 ⟨y,H1,I1,ry,q1⟩=>thn (ho pins s1 σ H1 _ I1 q1) fun u s2 ⟨x,H2,I2,rx,a,ov,ex,g,q2⟩=>?_
 subst ex
 obtain rfl:u=Value.ref a:=rx
 exact d_in hu I2 g ry fun s3 I3=>⟨.bl ov.isSome,H2,I3,rfl,q2⟩
theorem pc_dnotin (hu:X.A.units+1 < cLine) (hi:PE X i ty) (ho:PE X o td):PC X .NotIn i o (tDNotIn ty td):=by
 intro pins s σ H Q I h
 refine thn (hi pins s σ H _ I h) fun iv s1 ⟨y,H1,I1,ry,q1⟩=>thn (ho pins s1 σ H1 _ I1 q1) fun u s2 ⟨x,H2,I2,rx,a,ov,ex,g,q2⟩=>?_
 subst ex
 obtain rfl:u=Value.ref a:=rx
 exact d_notIn hu I2 g ry fun s3 I3=>⟨.bl (!ov.isSome),H2,I3,rfl,q2⟩
theorem ps_dput (hu:X.A.units+1 < cLine) (ho:PE X o td) (hi:PE X i ty) (hv:PE X value tv) (hs:swapsWith value (some (.Subscript o i pos')) pos.line X.env=pure false) :
  PS X (.Assign [.Subscript o i pos'] value pos) (sDPut td ty tv):=by
 intro pins s σ H D I h
 refine wpAny_Assign_Subscript (thn (hv pins s σ H _ I h) fun r s1 ⟨v,H1,I1,rv,q1⟩=>thn (ho pins s1 σ H1 _ I1 q1) fun u s2 ⟨x,H2,I2,rx,q2⟩=>thn (hi pins s2 σ H2 _ I2 q2) fun iv s3 ⟨y,H3,I3,ry,a,H4,ex,g,q3⟩=>?_) hs
 subst ex
 obtain rfl:u=Value.ref a:=rx
 exact d_setItem hu I3 g ry rv fun s4 I4=>⟨σ,H4,I4,q3⟩
end
theorem dk_empty {P:Program} {w:World} {H:Hp} (h:Heap) (hb:sysModules < h.objs.size):ObjOk P w H (h.push { cls:=.type "dict",data:=.dict #[] }) h.objs.size (.dK []) :=
 ⟨Nat.zero_le _,beq_eq_false_iff_ne.mpr (Ne.symm (Nat.ne_of_lt hb)),[],.nil,Heap.DictOf.new h⟩
def tDNewK:TE:=fun _ H Q=>∀ p,H p=none->Q (.ref p) (upd H p (.dK []))
section
variable {X:Cx} {pos:Pos}
theorem pe_dnewK:PE X (.Dict [] [] pos) tDNewK:=fun pins s σ H Q I h =>
 wpAny_Dict_empty ⟨.ref s.heap.objs.size,_,I.laid (a:=s.heap.objs.size) (o:=.dK []) (t':=s.toks) (fun _ _ q=>Heap.get?_push_of_some _ q) (Nat.le_refl _) (dk_empty s.heap I.big),rfl,h _ (I.hok.fresh (Nat.le_refl _))⟩
end
def tPairs:List (TE × TE)->St->Hp->(List (V × V)->Hp->Prop)->Prop
 | [],_,H,Q=>Q [] H
 | (tk,tv)::r,σ,H,Q=>tk σ H fun x H1=>tv σ H1 fun y H2=>tPairs r σ H2 fun ps H3=>Q ((x,y)::ps) H3
abbrev VV:List (V × V)->List (Value × Value)->Prop:=Paired fun p q=>RelV p.1 q.1/\RelV p.2 q.2
def PPs (X:Cx) (pos:Pos) (keys:List (Option Expr)) (values:List Expr) (trs:List (TE × TE)):Prop :=
 ∀ (pins:List (Addr × Obj)) (s:Shared) (σ:St) (H:Hp) (Q:List (V × V)->Hp->Prop),Inv X pins σ H s->tPairs trs σ H Q ->
  wpAny (model X.prog X.w) X.A (evalPairs (pairTrees keys values X.env pos)) (fun vs s'=>∃ ps H',Inv X pins σ H' s'/\VV ps vs/\Q ps H') X.xe s
theorem pps_nil {X:Cx} {pos:Pos}:PPs X pos [] [] []:=fun pins s σ H Q I h=>pairTrees_nil_walk ⟨[],H,I,.nil,h⟩
theorem pps_cons {X:Cx} {pos:Pos} {k v:Expr} {ks:List (Option Expr)} {vs:List Expr} {tk tv:TE} {trs:List (TE × TE)} (hk:PE X k tk) (hv:PE X v tv) (hr:PPs X pos ks vs trs) :
  PPs X pos (some k::ks) (v::vs) ((tk,tv)::trs):=fun pins s σ H Q I h =>
 pairTrees_cons_walk (thn (hk pins s σ H _ I h) fun u s1 ⟨x,H1,I1,rx,q1⟩=>thn (hv pins s1 σ H1 _ I1 q1) fun w2 s2 ⟨y,H2,I2,ry,q2⟩ =>
  thn (hr pins s2 σ H2 _ I2 q2) fun ws s3 ⟨ps,H3,I3,rel,q3⟩=>⟨(x,y)::ps,H3,I3,.cons ⟨rx,ry⟩ rel,q3⟩)
def mergeK (kvs more:List (Key × V)):List (Key × V):=more.foldl (fun acc kv=>putK acc kv.1 kv.2) kvs
theorem KV.merge:∀ {more:List (Key × V)} {rs:List (Key × Value)} {kvs:List (Key × V)} {vs:List (Key × Value)},KV more rs->KV kvs vs->KV (mergeK kvs more) (merged vs rs):=by
 intro more rs kvs vs r
 unfold KV at r
 induction r generalizing kvs vs with
 | nil=>intro q;exact q
 | @cons p q ps qs h t ih =>
  intro r0
  have e:KV (putK kvs p.1 p.2) (stored vs q.1 q.2):=by
   have:=r0.put p.1 h.2
   rw [<- h.1];exact this
  exact ih e
theorem length_mergeK:∀ (more kvs:List (Key × V)),(mergeK kvs more).length<=kvs.length+more.length
 | [],kvs=>by show kvs.length<=kvs.length+0;omega
 | p::r,kvs=>by
  have h1:=length_mergeK r (putK kvs p.1 p.2)
  have h2:=length_putK kvs p.1 p.2
  show (mergeK (putK kvs p.1 p.2) r).length<=_
  rw [List.length_cons];omega
theorem carries_of {P:Program} {w:World}:∀ {kvs:List (Key × V)} {ws:List (Value × Value)},VV (kvs.map fun kv=>(kV kv.1,kv.2)) ws->∃ rs,Carries (mixKind P w) ws rs/\KV kvs rs
 | [],_,r=>by rw [List.map_nil] at r;cases r;exact ⟨[],True.intro,.nil⟩
 | p::kvs,_,r=>by
  rw [List.map_cons] at r
  cases r with
  | @cons a b as bs h t =>
   obtain ⟨rs,c,q⟩:=carries_of (P:=P) (w:=w) t
   obtain ⟨b1,b2⟩:=b
   exact ⟨(p.1,b2)::rs,⟨kV_is h.1,rfl,c⟩,.cons ⟨rfl,h.2⟩ q⟩
def tDisp (trs:List (TE × TE)):TE:=fun σ H Q=>∀ p,H p=none->tPairs trs σ (upd H p (.dK [])) fun ps H2=>H2 p=some (.dK [])/\∃ kvs:List (Key × V),ps=kvs.map (fun kv=>(kV kv.1,kv.2))/\kvs.length<=15/\Q (.ref p) (upd H2 p (.dK (mergeK [] kvs)))
theorem pe_disp {X:Cx} {pos:Pos} {keys:List (Option Expr)} {values:List Expr} {trs:List (TE × TE)} (h:PPs X pos keys values trs) (hall:keys.all (·.isSome)=true) (hl:keys.length=values.length) (h0:keys≠[])
  (h15:keys.length<=15):PE X (.Dict keys values pos) (tDisp trs):=by
 intro pins s σ H Q I q
 have hn:=I.hok.fresh (Nat.le_refl s.heap.objs.size)
 have I1:=I.laid (a:=s.heap.objs.size) (o:=.dK []) (h':=s.heap.push { cls:=.type "dict",data:=.dict #[] }) (t':=s.toks) (fun _ _ q=>Heap.get?_push_of_some _ q) (Nat.le_refl _) (dk_empty s.heap I.big)
 refine wpAny_Dict_walk (knd:=mixKind X.prog X.w) hall hl h0 h15 (thn (h pins _ σ _ _ I1 (q _ hn)) fun ws s2 ⟨ps,H2,I2,rel,e,kvs,ep,lk,q2⟩=>?_)
 subst ep
 obtain ⟨rs,c,rk⟩:=carries_of (P:=X.prog) (w:=X.w) rel
 obtain ⟨z,hd,vs0,r0,dd⟩:=dk_of I2.hok e
 cases r0
 refine ⟨rs,c,dd,fun h' dd' hs=>⟨.ref s.heap.objs.size,_,?_,rfl,q2⟩⟩
 have hz:(mergeK [] kvs).length<=sizeLine:=by
  have h1:=length_mergeK kvs []
  rw [List.length_nil] at h1
  rw [sizeLine_eq];omega
 have he:∃ q,h'.get? s.heap.objs.size=some q:=let ⟨q,_,_,hq,_⟩:=dd';⟨q,hq⟩
 exact d_write I2 (by rw [e];exact True.intro) hs he (dk_new hz hd (rk.merge .nil) dd')
section
variable {X:Cx} {pins:List (Addr × Obj)} {σ:St} {H:Hp} {s:Shared} {a:Addr} {y d:V} {u r:Value} {o:Option V} {A:Around} {E:Value->Shared->Prop}
end
section
variable {X:Cx} {o e f:Expr} {apos cpos:Pos} {td ty tx:TE}
end
section
variable {X:Cx} {pins:List (Addr × Obj)} {σ:St} {H:Hp} {s:Shared} {a:Addr} {kvs:List (Key × V)} {A:Around} {E:Value->Shared->Prop}
end
section
variable {X:Cx} {pins:List (Addr × Obj)} {σ:St} {H:Hp} {s:Shared} {a:Addr} {y:V} {u:Value} {A:Around} {E:Value->Shared->Prop}
end
section
variable {X:Cx}
end
section
variable {κ:Type} [DecidableEq κ]
theorem nd_snoc:∀ {l:List κ} {k:κ},l.Nodup->¬ k∈l->(l++[k]).Nodup
 | [],k,_,_=>by simp
 | a::r,k,h,hk=>by
  obtain ⟨h1,h2⟩:=List.nodup_cons.mp h
  show (a::(r++[k])).Nodup
  refine List.nodup_cons.mpr ⟨fun m=>?_,nd_snoc h2 fun m=>hk (List.mem_cons.mpr (Or.inr m))⟩
  rcases List.mem_append.mp m with q | q
  ·exact h1 q
  ·exact hk (List.mem_cons.mpr (Or.inl (List.mem_singleton.mp q).symm))
end
section
variable {M:Model} {A:Around} {E:Value->Shared->Prop} {s:Shared}
def clOf (env:Env):List (Str × NameKind)->List (Str × Addr)->List (Str × Addr)
 | [],acc=>acc
 | (n,k)::r,acc=>if (k == NameKind.free)=true then clOf env r ((n,(env.cells.lookup n).getD 0)::acc) else clOf env r acc
theorem clOf_loop {env:Env} (f:Str × NameKind->List (Str × Addr)->Sem (ForInStep (List (Str × Addr))))
  (hf:∀ n k cs,f (n,k) cs=if (k == NameKind.free)=true then (do let a <- cellOf env n;pure (.yield ((n,a)::cs))) else pure (.yield cs)) :
  ∀ (names:List (Str × NameKind)) (acc:List (Str × Addr)),(∀ p∈names,p.2=.free->∃ c,env.cells.lookup p.1=some c)->forIn names acc f=pure (clOf env names acc)
 | [],acc,_=>by rw [List.forIn_nil];rfl
 | (n,k)::r,acc,h=>by
  have hr:∀ p∈r,p.2=.free->∃ c,env.cells.lookup p.1=some c:=fun p hp=>h p (List.mem_cons_of_mem _ hp)
  rw [List.forIn_cons,hf,clOf]
  by_cases hk:(k == NameKind.free)=true
  ·obtain ⟨c,hc⟩:=h (n,k) List.mem_cons_self (by simpa using hk)
   have hc':env.cells.lookup n=some c:=hc
   rw [if_pos hk,if_pos hk]
   have e:cellOf env n=pure c:=by unfold cellOf;rw [hc']
   rw [e,hc']
   exact clOf_loop f hf r _ hr
  ·rw [if_neg hk,if_neg hk]
   exact clOf_loop f hf r _ hr
theorem closureFor_of {sc:Scope} {env:Env} (h:∀ p∈sc.names,p.2=.free->∃ c,env.cells.lookup p.1=some c):closureFor sc env=pure (clOf env sc.names []):=by
 unfold closureFor
 have e:=clOf_loop (env:=env) (fun (x:Str × NameKind) (r:List (Str × Addr))=>if (x.2 == NameKind.free)=true then (do let a <- cellOf env x.1;pure (ForInStep.yield ((x.1,a)::r))) else pure (ForInStep.yield r)) (fun _ _ _=>rfl) sc.names [] h
 exact (congrArg (fun m=>m >>= fun cs=>pure cs) e)
theorem clOf_mem {env:Env} {x:Str} {c:Addr}:∀ {names:List (Str × NameKind)} {acc:List (Str × Addr)},(x,c)∈clOf env names acc->(x,c)∈acc\/((x,NameKind.free)∈names/\c=(env.cells.lookup x).getD 0)
 | [],_,h=>.inl h
 | (n,k)::r,acc,h=>by
  unfold clOf at h
  split at h
  ·rename_i hk
   have hk':k=.free:=by simpa using hk
   rcases clOf_mem h with q | ⟨q,e⟩
   ·rcases List.mem_cons.mp q with q | q
    ·cases q;exact .inr ⟨by rw [hk'];exact List.mem_cons_self,rfl⟩
    ·exact .inl q
   ·exact .inr ⟨List.mem_cons_of_mem _ q,e⟩
  ·rcases clOf_mem h with q | ⟨q,e⟩
   ·exact .inl q
   ·exact .inr ⟨List.mem_cons_of_mem _ q,e⟩
theorem lookup_mem_some {β:Type} {x:Str} {c:β}:∀ {l:List (Str × β)},(x,c)∈l->∃ c',l.lookup x=some c'
 | [],h=>nomatch h
 | (n,k)::r,h=>by
  cases hx:x == n with
  | true=>exact ⟨k,by simp [List.lookup_cons,hx]⟩
  | false =>
   rcases List.mem_cons.mp h with q | q
   ·cases q;simp at hx
   ·obtain ⟨c',e⟩:=lookup_mem_some q
    exact ⟨c',by simp [List.lookup_cons,hx,e]⟩
theorem clOf_has {env:Env} {x:Str}:∀ {names:List (Str × NameKind)} {acc:List (Str × Addr)},((x,NameKind.free)∈names\/∃ c,(x,c)∈acc)->∃ c,(x,c)∈clOf env names acc
 | [],acc,h=>by
  rcases h with h | ⟨c,h⟩
  ·exact nomatch h
  ·exact ⟨c,h⟩
 | (n,k)::r,acc,h=>by
  unfold clOf
  split
  ·rename_i hk
   apply clOf_has
   rcases h with h | ⟨c,h⟩
   ·rcases List.mem_cons.mp h with q | q
    ·cases q;exact .inr ⟨_,List.mem_cons_self⟩
    ·exact .inl q
   ·exact .inr ⟨c,List.mem_cons_of_mem _ h⟩
  ·rename_i hk
   apply clOf_has
   rcases h with h | ⟨c,h⟩
   ·rcases List.mem_cons.mp h with q | q
    ·cases q;simp at hk
    ·exact .inl q
   ·exact .inr ⟨c,h⟩
theorem cellsFrom_append:∀ (names:List (Str × NameKind)) (n:Nat) (acc:List (Str × Addr)),cellsFrom n names acc=cellsFrom n names []++acc
 | [],_,_=>rfl
 | (x,k)::r,n,acc=>by
  unfold cellsFrom
  split
  ·rw [cellsFrom_append r (n+1) ((x,n)::acc),cellsFrom_append r (n+1) [(x,n)]];simp
  ·exact cellsFrom_append r n acc
theorem cellsFrom_mem {x:Str} {c:Addr}:∀ {names:List (Str × NameKind)} {n:Nat} {acc:List (Str × Addr)},(x,c)∈cellsFrom n names acc->(x,c)∈acc\/(x,NameKind.cell)∈names
 | [],_,_,h=>.inl h
 | (m,k)::r,n,acc,h=>by
  unfold cellsFrom at h
  split at h
  ·rename_i hk
   have hk':k=.cell:=by simpa using hk
   rcases cellsFrom_mem h with q | q
   ·rcases List.mem_cons.mp q with q | q
    ·cases q;exact .inr (by rw [hk'];exact List.mem_cons_self)
    ·exact .inl q
   ·exact .inr (List.mem_cons_of_mem _ q)
  ·rcases cellsFrom_mem h with q | q
   ·exact .inl q
   ·exact .inr (List.mem_cons_of_mem _ q)
theorem cellsFrom_has {x:Str}:∀ {names:List (Str × NameKind)} {n:Nat} {acc:List (Str × Addr)},((x,NameKind.cell)∈names\/∃ c,(x,c)∈acc)->∃ c,(x,c)∈cellsFrom n names acc
 | [],n,acc,h=>by
  rcases h with h | ⟨c,h⟩
  ·exact nomatch h
  ·exact ⟨c,h⟩
 | (m,k)::r,n,acc,h=>by
  unfold cellsFrom
  split
  ·apply cellsFrom_has
   rcases h with h | ⟨c,h⟩
   ·rcases List.mem_cons.mp h with q | q
    ·cases q;exact .inr ⟨_,List.mem_cons_self⟩
    ·exact .inl q
   ·exact .inr ⟨c,List.mem_cons_of_mem _ h⟩
  ·rename_i hk
   apply cellsFrom_has
   rcases h with h | ⟨c,h⟩
   ·rcases List.mem_cons.mp h with q | q
    ·cases q;simp at hk
    ·exact .inl q
   ·exact .inr ⟨c,h⟩
theorem lookup_app {β:Type} {x:Str}:∀ (l1 l2:List (Str × β)),(l1++l2).lookup x=(l1.lookup x).or (l2.lookup x)
 | [],_=>by simp
 | (n,k)::r,l2=>by
  cases hx:x == n with
  | true=>simp [List.lookup_cons,hx]
  | false=>simp [List.lookup_cons,hx,lookup_app r l2]
theorem newEnv_comp {scope:Scope} {globals:Addr} {cl:List (Str × Addr)} {qual:Str} {env:Env} {Q:Env->Shared->Prop}
  (hQ:Q { scope,locals:=s.heap.objs.size,globals,cells:=cellsFrom (s.heap.objs.size+1) scope.names cl,qual,func:=none,code:=env.code,frame:=env.frame,builtins:=env.builtins }
   { s with heap:=pushCells (s.heap.push { cls:=.type "dict",data:=.dict #[] }) scope.names }) :
  wpAny M A (newFunctionEnv scope globals cl [] qual none .none (some env)) Q E s:=by
 have z:(s.heap.push { cls:=.type "dict",data:=.dict #[] }).objs.size=s.heap.objs.size+1:=Heap.size_push ..
 show wpAny M A (alloc { cls:=.type "dict",data:=.dict #[] } >>= _) Q E s
 apply wpAny_bind;apply wpAny_alloc;apply wpAny_bind
 refine wpAny_layCells _ (fun _ k _=>by by_cases y:k=NameKind.cell<;>simp [y]) _ _ _ _ ?_
 dsimp only
 rw [List.forIn_nil,z]
 exact wpAny_bind (wpAny_pure (wpAny_pure hQ))
theorem lookup_relabel {env:Env} {x:Str}:∀ (names:List (Str × NameKind)),
  (names.map fun (n,k)=>if (k == NameKind.free && env.scope.kind == .function && env.kindOf n == some .cell) then (n,NameKind.cell) else (n,k)).lookup x =
   (names.lookup x).map fun k=>if (k == NameKind.free && env.scope.kind == .function && env.kindOf x == some .cell)=true then NameKind.cell else k
 | []=>by simp
 | (n,k)::r=>by
  have ih:=lookup_relabel (env:=env) (x:=x) r
  cases hx:x == n with
  | true =>
   have e:x=n:=by simpa using hx
   subst e
   rw [List.map_cons]
   dsimp only
   by_cases hc:(k == NameKind.free && env.scope.kind == .function && env.kindOf x == some .cell)=true
   ·rw [if_pos hc,List.lookup_cons,List.lookup_cons,hx];dsimp only [Option.map_some];rw [if_pos hc]
   ·rw [if_neg hc,List.lookup_cons,List.lookup_cons,hx];dsimp only [Option.map_some];rw [if_neg hc]
  | false =>
   rw [List.map_cons]
   dsimp only
   by_cases hc:(k == NameKind.free && env.scope.kind == .function && env.kindOf n == some .cell)=true
   ·rw [if_pos hc,List.lookup_cons,List.lookup_cons,hx];exact ih
   ·rw [if_neg hc,List.lookup_cons,List.lookup_cons,hx];exact ih
end
def cxC (X:Cx) (own:List Str) (fr:List Nat) (scope:Scope) (s2:Shared) (H2:Hp) (fp:List Addr):Cx where
 prog:=X.prog
 w:=X.w
 K:=X.K
 mg:=X.mg
 base:=X.base
 A:=X.A
 N:=own++fr.map (fun i=>X.N.getD i Str.empty)
 s₀:=s2
 H₀:=H2
 env:={ scope:=relabel scope X.env,locals:=s2.heap.objs.size+1,globals:=X.env.globals,cells:=cellsFrom (s2.heap.objs.size+2) scope.names (clOf X.env scope.names []),qual:=X.env.qual,func:=none,code:=X.env.code,frame:=X.env.frame,builtins:=X.env.builtins }
 outer:=X.stack
 stack:=X.stack
 ex:=fp
 fn:=fun x=>scope.names.lookup x == some .cell
 calm:=X.calm
 pn:=[]
 xe:=fun _ _=>False
def cSt (own:List Str) (fr:List Nat) (σ:St):St:=List.replicate own.length none++fr.map fun i=>(σ[i]?).join
def compOk (osc:List (Str × NameKind)) (N:List Str) (own:List Str) (fr:List Nat) (sc:Scope):Bool :=
 decide (sc.kind=.function) && decide ((sc.names.map (·.1)).Nodup) &&
 sc.names.all (fun y=>!(y.2 == .free) || (osc.lookup y.1 == some .cell || osc.lookup y.1 == some .free)) &&
 fr.all (fun i=>decide (i < N.length) && (sc.names.lookup (N.getD i Str.empty) == some .free))
structure CompSc (X:Cx) (own:List Str) (fr:List Nat) (sc:Scope):Prop where
 kind:sc.kind=.function
 nd:(sc.names.map (·.1)).Nodup
 fre:∀ y∈sc.names,y.2=.free->X.env.scope.names.lookup y.1=some .cell\/X.env.scope.names.lookup y.1=some .free
 frl:∀ i∈fr,i < X.N.length
 frv:∀ i∈fr,sc.names.lookup (X.N.getD i Str.empty)=some .free
theorem compSc {X:Cx} {own:List Str} {fr:List Nat} {sc:Scope} {osc:List (Str × NameKind)} {N:List Str} (h1:X.env.scope.names=osc) (h2:X.N=N) (h:compOk osc N own fr sc=true):CompSc X own fr sc:=by
 unfold compOk at h
 simp only [Bool.and_eq_true,decide_eq_true_eq,List.all_eq_true] at h
 obtain ⟨⟨⟨h3,h4⟩,h5⟩,h6⟩:=h
 refine ⟨h3,h4,fun y hy hf=>?_,fun i hi=>?_,fun i hi=>?_⟩
 ·have:=h5 y hy
  rw [h1]
  simpa [hf] using this
 ·rw [h2];exact (h6 i hi).1
 ·rw [h2];simpa using (h6 i hi).2
theorem lookup_of_mem_nd {x:Str} {k:NameKind}:∀ {l:List (Str × NameKind)},(l.map (·.1)).Nodup->(x,k)∈l->l.lookup x=some k
 | [],_,h=>nomatch h
 | (n,q)::r,nd,h=>by
  rcases List.mem_cons.mp h with e | e
  ·cases e;simp [List.lookup_cons]
  ·have nd':=List.nodup_cons.mp nd
   have hne:(x == n)=false:=by
    have:x≠n:=fun z=>nd'.1 (by rw [<- z];exact List.mem_map.mpr ⟨_,e,rfl⟩)
    simpa using this
   rw [List.lookup_cons,hne]
   exact lookup_of_mem_nd nd'.2 e
section
variable {X:Cx} {pins:List (Addr × Obj)} {σ:St} {H:Hp} {s:Shared} {own:List Str} {fr:List Nat} {sc:Scope} {fp:List Addr}
abbrev hC (s:Shared) (sc:Scope) (h1:Heap):Heap:=pushCells (h1.push { cls:=.type "dict",data:=.dict #[] }) sc.names
theorem inv_comp (I : Inv X pins σ H s) (S : CompSc X own fr sc) (hfp : ∀ b ∈ fp, FpOk X pins H b) {h1 : Heap} (hz : h1.objs.size = s.heap.objs.size + 1) (hk : ∀ b o, s.heap.get? b = some o → h1.get? b = some o) (hfl : ∀ b ∈ fp, @LT.lt Nat _ b s.heap.objs.size) :
    Inv (cxC X own fr sc s H fp) [] (cSt own fr σ) H { s with heap := hC s sc h1 } := by
  have kk : ∀ b o, s.heap.get? b = some o → (hC s sc h1).get? b = some o := fun b o e => pushCells_keeps _ _ b o (Heap.get?_push_of_some _ (hk b o e))
  have nsC : (hC s sc h1).Ns (s.heap.objs.size + 1) (fun _ => none) := by
    have q := (Heap.Ns.new h1 (.type "dict")).keeps (pushCells_keeps sc.names _)
    rw [hz] at q
    exact q
  have ok := cellsFrom_ok sc.names (h1.push { cls := .type "dict", data := .dict #[] }) (s.heap.objs.size + 2) [] ⟨fun _ _ hm => (nomatch hm), List.Pairwise.nil⟩ (by rw [Heap.size_push, hz]; exact Nat.le_refl _)
  rw [Heap.size_push, hz] at ok
  have fcell : ∀ y ∈ sc.names, y.2 = .free → ∃ c, X.env.cells.lookup y.1 = some c := fun y hy hf => I.ok.has y.1 (by
    rcases S.fre y hy hf with q | q
    · exact .inl q
    · exact .inr q)
  have old : ∀ x c, (clOf X.env sc.names []).lookup x = some c → X.env.cells.lookup x = some c ∧ (x, NameKind.free) ∈ sc.names := fun x c e => by
    rcases clOf_mem (PySem.mem_of_lookup e) with q | ⟨q, e2⟩
    · exact nomatch q
    · obtain ⟨c', e3⟩ := fcell _ q rfl
      have e3' : X.env.cells.lookup x = some c' := e3
      rw [e3'] at e2
      have : c = c' := e2
      subst this
      exact ⟨e3', q⟩
  have cs : ∀ x c, (cxC X own fr sc s H fp).env.cells.lookup x = some c → ((cellsFrom (s.heap.objs.size + 2) sc.names []).lookup x = some c ∧ @LE.le Nat _ (s.heap.objs.size + 2) c) ∨ (X.env.cells.lookup x = some c ∧ (x, NameKind.free) ∈ sc.names ∧ @LT.lt Nat _ c s.heap.objs.size) := fun x c e => by
    have e' : (cellsFrom (s.heap.objs.size + 2) sc.names (clOf X.env sc.names [])).lookup x = some c := e
    rw [cellsFrom_append, lookup_app] at e'
    cases q : (cellsFrom (s.heap.objs.size + 2) sc.names []).lookup x with
    | some c' =>
      rw [q] at e'
      have : c' = c := by simpa using e'
      subst this
      exact .inl ⟨rfl, (ok.empty x c' (PySem.mem_of_lookup q)).2⟩
    | none =>
      rw [q] at e'
      obtain ⟨e1, e2⟩ := old x c (by simpa using e')
      obtain ⟨v, hv⟩ := I.cell x c e1
      exact .inr ⟨e1, e2, hv.lt⟩
  have okY : (cxC X own fr sc s H fp).Ok := by
    refine ⟨I.ok.mod, S.kind, I.ok.glob, I.ok.blt, Nat.le_succ _, fun x y c h1 h2 => ?_, fun x hx => ?_, fun x c hf e => ?_, I.ok.hd, I.ok.frames, .inl rfl, fun b hb => ⟨?_, fun x c e => ?_⟩, fun b o e => I.bs b o e, Nat.le_trans I.ok.bsz I.sz, fun b o e hb => ?_, fun b hb z => ?_, I.stack, I.stkFree⟩
    · rcases cs x c h1 with ⟨q1, g1⟩ | ⟨q1, _, g1⟩
      · rcases cs y c h2 with ⟨q2, g2⟩ | ⟨q2, _, g2⟩
        · exact name_of_addr ok.apart (PySem.mem_of_lookup q1) (PySem.mem_of_lookup q2)
        · omega
      · rcases cs y c h2 with ⟨q2, g2⟩ | ⟨q2, _, g2⟩
        · omega
        · exact I.ok.inj x y c q1 q2
    · -- a cell or free name of the block has its cell
      have hx' : (relabel sc X.env).names.lookup x = some .cell ∨ (relabel sc X.env).names.lookup x = some .free := hx
      have hl : sc.names.lookup x = some .cell ∨ sc.names.lookup x = some .free := by
        unfold relabel at hx'
        rw [lookup_relabel] at hx'
        cases q : sc.names.lookup x with
        | none => rw [q] at hx'; simp at hx'
        | some k =>
          rw [q] at hx'
          cases k <;> simp at hx' ⊢
      have hm : ∃ c, (x, c) ∈ cellsFrom (s.heap.objs.size + 2) sc.names (clOf X.env sc.names []) := by
        rcases hl with hl | hl
        · exact cellsFrom_has (.inl (PySem.mem_of_lookup hl))
        · exact cellsFrom_has (.inr (clOf_has (.inl (PySem.mem_of_lookup hl))))
      obtain ⟨c, hm⟩ := hm
      exact lookup_mem_some hm
    · have hf' : sc.names.lookup x = some .cell := by simpa using (show (sc.names.lookup x == some .cell) = true from hf)
      show @LE.le Nat _ s.heap.objs.size c
      rcases cs x c e with ⟨_, g⟩ | ⟨_, q, _⟩
      · omega
      · rw [lookup_of_mem_nd S.nd q] at hf'; cases hf'
    · have := hfl b hb
      show @Ne Nat b (s.heap.objs.size + 1)
      omega
    · intro z
      subst z
      rcases cs x c e with ⟨_, g⟩ | ⟨q, _, _⟩
      · have := hfl c hb; omega
      · exact (hfp c hb).2.2.2.2.1 x c q rfl
    · rcases (hfp b hb).2.2.2.1 with z | z
      · exact I.ok.noex b o e z
      · have z1 : @LT.lt Nat _ b X.base.objs.size := Heap.lt_size e
        have z2 : X.base.objs.size ≤ X.s₀.heap.objs.size := I.ok.bsz
        have z3 : @LE.le Nat _ X.s₀.heap.objs.size b := z
        omega
    · rcases List.mem_cons.mp (I.stkSub b z) with e | e
      · exact (hfp b hb).2.1 e
      · exact (hfp b hb).2.2.1 e
  refine ⟨okY, rfl, I.bare, Un.kept kk, ⟨_, nsC, fun i x v h1 h2 h3 => ?_⟩, fun x c e => ?_, I.hok.fresh (Nat.le_succ _), fun x c e => ?_, fun p hp => absurd (show p ∈ ([] : List (Addr × Obj)) from hp) (by simp), I.hok.kept kk, ?_⟩
  · -- an outer name that is read
    have hi : own.length ≤ i := by
      by_cases hi : i < own.length
      · exfalso
        unfold cSt at h2
        rw [List.getElem?_append_left (by simpa using hi), List.getElem?_replicate] at h2
        split at h2 <;> cases h2
      · omega
    have h1' : (own ++ fr.map (fun i => X.N.getD i Str.empty))[i]? = some x := h1
    rw [List.getElem?_append_right hi, List.getElem?_map] at h1'
    unfold cSt at h2
    rw [List.getElem?_append_right (by simpa using hi), List.getElem?_map, List.length_replicate] at h2
    cases e : fr[i - own.length]? with
    | none => rw [e] at h1'; cases h1'
    | some k =>
      rw [e] at h1' h2
      have hkm : k ∈ fr := List.mem_of_getElem? e
      have ex : X.N.getD k Str.empty = x := by simpa using h1'
      have ev : (σ[k]?).join = some v := by simpa using h2
      have hkl := S.frl k hkm
      have eN : X.N[k]? = some x := by rw [← ex]; simp [List.getD, hkl]
      have eσ : σ[k]? = some (some v) := by
        cases q : σ[k]? with
        | none => rw [q] at ev; cases ev
        | some o => rw [q] at ev; cases o with
          | none => cases ev
          | some v' => have : v' = v := by simpa using ev
                       subst this; rfl
      have hfr := S.frv k hkm
      rw [ex] at hfr
      have hmem : (x, NameKind.free) ∈ sc.names := PySem.mem_of_lookup hfr
      have hkd := S.fre _ hmem rfl
      have hkd' : X.env.scope.names.lookup x = some .cell ∨ X.env.scope.names.lookup x = some .free := hkd
      obtain ⟨m, hn, hl⟩ := I.loc
      obtain ⟨u, r, l⟩ := hl k x v eN eσ (hkd'.elim (fun z => .inr (.inl z)) fun z => .inr (.inr z))
      refine ⟨u, r, ?_⟩
      rcases l with ⟨z, _⟩ | ⟨_, c, hc, hcell⟩
      · exfalso
        have z' : X.env.scope.names.lookup x = some .local := z
        rcases hkd' with q | q <;> (rw [q] at z'; cases z')
      · refine .inr ⟨?_, c, ?_, hcell.keeps kk⟩
        · show (relabel sc X.env).names.lookup x = some .cell ∨ (relabel sc X.env).names.lookup x = some .free
          unfold relabel
          rw [lookup_relabel, hfr]
          simp only [Option.map_some]
          split
          · exact .inl rfl
          · exact .inr rfl
        · show (cellsFrom (s.heap.objs.size + 2) sc.names (clOf X.env sc.names [])).lookup x = some c
          rw [cellsFrom_append, lookup_app]
          have h0 : (cellsFrom (s.heap.objs.size + 2) sc.names []).lookup x = none := by
            cases q : (cellsFrom (s.heap.objs.size + 2) sc.names []).lookup x with
            | none => rfl
            | some c' =>
              exfalso
              rcases cellsFrom_mem (PySem.mem_of_lookup q) with z | z
              · exact nomatch z
              · rw [lookup_of_mem_nd S.nd z] at hfr; cases hfr
          rw [h0]
          obtain ⟨c', hm'⟩ := clOf_has (env := X.env) (acc := []) (.inl hmem)
          obtain ⟨c2, e2⟩ := lookup_mem_some hm'
          obtain ⟨e3, _⟩ := old x c2 e2
          rw [hc] at e3
          rw [e2]
          simpa using e3.symm
  · rcases cs x c e with ⟨q, _⟩ | ⟨q, _, _⟩
    · exact ⟨_, (ok.empty x c (PySem.mem_of_lookup q)).1⟩
    · obtain ⟨v, hv⟩ := I.cell x c q
      exact ⟨v, hv.keeps kk⟩
  · rcases cs x c e with ⟨_, g⟩ | ⟨q, _, _⟩
    · exact I.hok.fresh (by omega)
    · exact I.freeC x c q
  · unfold cSt
    show _ = (own ++ fr.map (fun i => X.N.getD i Str.empty)).length
    simp
theorem inv_back {own:List Str} {fr:List Nat} {sc:Scope} {fp:List Addr} {H1:Hp} {s1:Shared} {σ1:St} {pins1:List (Addr × Obj)} {h':Heap} {o:HO} {D:Addr}
  (I:Inv X pins σ H s) (hfp:∀ b∈fp,FpOk X pins H b) (I1:Inv (cxC X own fr sc s H fp) pins1 σ1 H1 s1) (hD:@LE.le Nat _ s.heap.objs.size D) (hDn:H1 D=none) (hDC:D≠s.heap.objs.size+1)
  (hs:Heap.SameBut (s.heap.objs.size+1) s1.heap h') (hO:ObjOk X.prog X.w (upd H1 D o) h' D o) (tk:Nat):Inv X pins σ (upd H1 D o) { s1 with heap:=h',toks:=tk }:=by
 have u:=I1.base
 have hCn:H1 (s.heap.objs.size+1)=none:=I1.free
 have hDo:∀ b ob,s.heap.get? b=some ob->b≠D:=fun b ob e z=>by
  have:=Heap.lt_size e
  have z':@Eq Nat b D:=z
  have q:@LT.lt Nat _ b s.heap.objs.size:=this
  omega
 have hCo:∀ b ob,s.heap.get? b=some ob->b≠s.heap.objs.size+1:=fun b ob e z=>by
  have q:@LT.lt Nat _ b s.heap.objs.size:=Heap.lt_size e
  have z':@Eq Nat b (s.heap.objs.size+1):=z
  omega
 have hDs:H D=none:=I.hok.fresh hD
 have cut:∀ b ob,s.heap.get? b=some ob->∀ oc,s1.heap.get? b=some oc->h'.get? b=some oc:=fun b ob e oc q=>(hs.2 b (hCo b ob e)).trans q
 refine Inv.call' (ch:=fp) I (s':={ s1 with heap:=h',toks:=tk }) I1.os ?_ ?_ I1.bare fun b hb=>⟨(hfp b hb).2.2.2.1,(hfp b hb).2.1,(hfp b hb).2.2.2.2.1,(hfp b hb).2.2.2.2.2⟩
 ·refine ⟨fun b ob e n hb hx=>cut b ob e _ (u.keep b ob e n hb hx),fun b ob e n hb hx=>?_,fun b ob e n hx=>?_,fun b ob e hx=>?_,fun b xs e=>?_,fun b ob xs e=>?_,fun b ps e=>?_⟩
  ·obtain ⟨sl,q⟩:=u.slot b ob e n hb hx
   exact ⟨sl,cut b ob e _ q⟩
  ·rw [upd_ne (hDo b ob e)];exact u.free b ob e n hx
  ·obtain ⟨o',q⟩:=u.there b ob e hx
   exact ⟨o',cut b ob e _ q⟩
  ·rw [upd_ne (ne_of_none e hDs)];exact u.tups b xs e
  ·rw [upd_ne (ne_of_none e hDs)];exact u.frzs b ob xs e
  ·rw [upd_ne (ne_of_none e hDs)];exact u.tbls b ps e
 ·intro b ob e
  by_cases hb:b=D
  ·subst hb;rw [upd_same] at e;cases e;exact hO
  ·rw [upd_ne hb] at e
   refine (I1.hok b ob e).stay (fun c q hc g=>?_) (fun c q=>by rw [upd_ne (ne_of_none q hDn)];exact q) fun c xs q=>by rw [upd_ne (ne_of_none q hDn)];exact q
   refine (hs.2 c ?_).trans g
   rcases hc with z | z
   ·rw [z];exact ne_of_none e hCn
   ·exact ne_of_none z hCn
end
abbrev Nev:Value->Shared->Prop:=fun _ _=>False
def oneTest (env:Env) (c:Expr) (b:Bool):Sem (ForInStep Bool) :=
 if b=true then (isTrue c env (eval c env) >>= fun b'=>pure (.yield b')) else pure (.yield b)
def allTests (env:Env) (cs:List Expr):Sem Bool:=forIn cs true (oneTest env)
structure Blk where
 add:Expr
 tgt:Expr
 src:Expr
 cs:List Expr
 sc:Scope
 pos:Pos
namespace Blk
variable (B:Blk)
abbrev expr:Expr:=.ListComp B.add [⟨B.tgt,B.src,B.cs,0⟩] B.sc B.pos
section
variable (prog:Program) (w:World) (A:Around) (env:Env) (it acc:Value)
abbrev Tame {α:Type} (e:Sem α) (Q:α->Shared->Prop) (s:Shared):Prop:=wpAny (model prog w) A e Q Nev s
def Lays (J:Shared->Prop):Bool->Shared->Prop
 | false,s=>J s
 | true,s=>Tame prog w A (eval B.add env) (fun x=>Tame prog w A (call (.builtin "list.append") [acc,x]) fun _=>J) s
def Takes (J:Shared->Prop) (v:Value):Shared->Prop :=
 Tame prog w A (letOwnedTupleGo B.tgt it v) fun _=>Tame prog w A (assign B.tgt env v) fun _=>Tame prog w A (allTests env B.cs) (B.Lays prog w A env acc J)
def Next (D J:Shared->Prop):Option Value->Shared->Prop
 | none=>D
 | some v=>B.Takes prog w A env it acc J v
end
theorem loops {B:Blk} {prog:Program} {w:World} {A:Around} {env:Env} {it acc:Value} {R:Result->Shared->Prop} (G:Nat->Shared->Prop)
  (turn:∀ k t,G k t->Tame prog w A (pyNext it) (B.Next prog w A env it acc (R (.ok .next)) fun u=>∃ j,j < k/\G j u) t)
  {k:Nat} {t:Shared} (g:G k t):codeAny (model prog w) A (.compLoop B.expr 0 it acc env) R t:=by
 have one:∀ k t,G k t->Tame prog w A (compTurn B.expr 0 it acc env) (fun x t'=>match x with | .done r=>R (.ok r) t' | .again c=>c=.compLoop B.expr 0 it acc env/\∃ j,j < k/\G j t') t:=by
  intro k t g
  rw [show B.expr=.ListComp B.add [⟨B.tgt,B.src,B.cs,0⟩] B.sc B.pos from rfl,compTurn_list]
  apply wpAny_bind;apply wpAny_standAt;apply wpAny_bind
  refine thn (turn k t g) fun x t1 h1=>?_
  match x,h1 with
  | none,h1=>exact wpAny_pure h1
  | some v,h1 =>
   apply wpAny_bind;refine thn h1 fun _ t2 h2=>?_
   apply wpAny_bind;refine thn h2 fun _ t3 h3=>?_
   apply wpAny_bind;refine thn h3 fun b t4 h4=>?_
   match b,h4 with
   | false,h4=>exact wpAny_pure ⟨rfl,h4⟩
   | true,h4 =>
    apply wpAny_bind;apply wpAny_bind
    refine thn h4 fun y t5 h5=>?_
    apply wpAny_bind
    refine thn h5 fun _ t6 h6=>?_
    exact wpAny_pure (wpAny_pure ⟨rfl,h6⟩)
 exact codeAny_loop rfl G (fun k t g=>wpAny_noted (wpAny_mono (one k t g) (fun _ _ q=>q) fun _ _ f=>f.elim)) k g
end Blk
def PIfs (X:Cx) (ifs:List Expr) (t:TT):Prop :=
 ∀ (pins:List (Addr × Obj)) (s:Shared) (σ:St) (H:Hp) (Q:Bool->Hp->Prop),Inv X pins σ H s->t σ H Q ->
  wpAny (model X.prog X.w) X.A (allTests X.env ifs) (TP X pins σ Q) X.xe s
def tYes:TT:=fun _ H Q=>Q true H
theorem pifs_nil {X:Cx}:PIfs X [] tYes:=fun _ _ _ H _ I h=>wpAny_tests_nil ⟨H,I,h⟩
theorem pifs_one {X:Cx} {c:Expr} {t:TT} (h:PT X c t):PIfs X [c] t:=fun pins s σ H Q I q=>wpAny_tests_one (h pins s σ H Q I q)
def GK (n:Nat) (g:TG):Prop:=∀ v σ H Q,g v σ H Q->g v σ H fun σ' H'=>Q σ' H'/\σ'.length=σ.length/\∀ j,n<=j->σ'[j]?=σ[j]?
def GKs (n:Nat) (g:TGs):Prop:=∀ vs σ H Q,g vs σ H Q->g vs σ H fun σ' H'=>Q σ' H'/\σ'.length=σ.length/\∀ j,n<=j->σ'[j]?=σ[j]?
theorem gk_name {n i:Nat} (h:i < n):GK n (gName i):=fun v σ H Q q=>⟨q,by simp,fun j hj=>by rw [List.getElem?_set_ne (by omega)]⟩
theorem gks_nil {n:Nat}:GKs n gNil:=fun vs σ H Q q=>⟨q.1,q.2,rfl,fun _ _=>rfl⟩
theorem gks_cons {n:Nat} {t:TG} {u:TGs} (m:∀ v σ H Q Q',(∀ σ' H',Q σ' H'->Q' σ' H')->t v σ H Q->t v σ H Q') (mu:∀ v σ H Q Q',(∀ σ' H',Q σ' H'->Q' σ' H')->u v σ H Q->u v σ H Q') (h1:GK n t) (h2:GKs n u):GKs n (gCons t u):=fun vs σ H Q ⟨v,r,e,q⟩ =>
 ⟨v,r,e,m _ _ _ _ _ (fun σ' H' ⟨q',l1,k1⟩=>mu _ _ _ _ _ (fun σ2 H2 ⟨q2,l2,k2⟩=>⟨q2,l2.trans l1,fun j hj=>(k2 j hj).trans (k1 j hj)⟩) (h2 _ _ _ _ q')) (h1 _ _ _ _ q)⟩
theorem gk_tup {K:PySem.W.Frag} {n k:Nat} {t:TGs} (h:GKs n t):GK n (gTup K k t):=fun v σ H Q ⟨a,xs,e,sq,l,q⟩=>⟨a,xs,e,sq,l,h _ _ _ _ q⟩
theorem gn_mono {i:Nat}:∀ v σ H Q Q',(∀ σ' H',Q σ' H'->Q' σ' H')->gName i v σ H Q->gName i v σ H Q':=fun _ _ _ _ _ m q=>m _ _ q
theorem gnil_mono:∀ v σ H Q Q',(∀ σ' H',Q σ' H'->Q' σ' H')->gNil v σ H Q->gNil v σ H Q':=fun _ _ _ _ _ m q=>⟨q.1,m _ _ q.2⟩
theorem gcons_mono {t:TG} {u:TGs} (m:∀ v σ H Q Q',(∀ σ' H',Q σ' H'->Q' σ' H')->t v σ H Q->t v σ H Q') (mu:∀ v σ H Q Q',(∀ σ' H',Q σ' H'->Q' σ' H')->u v σ H Q->u v σ H Q'):∀ v σ H Q Q',(∀ σ' H',Q σ' H'->Q' σ' H')->gCons t u v σ H Q->gCons t u v σ H Q' :=
 fun _ _ _ _ _ mq ⟨v,r,e,q⟩=>⟨v,r,e,m _ _ _ _ _ (fun _ _ q'=>mu _ _ _ _ _ mq q') q⟩
theorem gk_two {K:PySem.W.Frag} {n k i j:Nat} (h1:i < n) (h2:j < n):GK n (gTup K k (gCons (gName i) (gCons (gName j) gNil))) :=
 gk_tup (gks_cons gn_mono (gcons_mono gn_mono gnil_mono) (gk_name h1) (gks_cons gn_mono gnil_mono (gk_name h2) gks_nil))
def lcLoop (own : List Str) (fr : List Nat) (g : TG) (tt : TT) (te : TE) (σ : St) (Q : VK) (J : It) (H1 : Hp) : Prop :=
  ∃ W : Nat → Nat → List V → Hp → Prop, (∃ m, W 0 m [] H1) ∧ ∀ i m ys H2, W i m ys H2 → ys.length ≤ sizeLine ∧
    ((J.stop i H2 ∧ ∀ D, H2 D = none → Q (.ref D) (upd H2 D (.lst ys))) ∨
     (J.go i H2 ∧ ∀ x H3, J.yld i H2 x H3 → g x (cSt own fr σ) H3 fun σ4 H4 => tt σ4 H4 fun b H5 => if b = true then te σ4 H5 fun y H6 => ∃ m', m' < m ∧ W (i + 1) m' (ys ++ [y]) H6 else ∃ m', m' < m ∧ W (i + 1) m' ys H5))
def tLC (own:List Str) (fr:List Nat) (wi:TI) (g:TG) (tt:TT) (te:TE):TE:=fun σ H Q=>wi σ H (lcLoop own fr g tt te σ Q)
section
variable {X:Cx} {own:List Str} {fr:List Nat} {sc:Scope} {tg iter elt:Expr} {ifs:List Expr} {pos:Pos} {wi:TI} {g:TG} {tt:TT} {te:TE}
theorem lc_core {pins:List (Addr × Obj)} {σ:St} {H2:Hp} {s2:Shared} {Q:VK} {it:Addr} {fp:List Addr} {tn:Nat->Heap->Prop} {J:It} {RR:Value->Addr->Result->Shared->Prop} {E:Value->Shared->Prop} (hc:X.calm=true) (S:CompSc X own fr sc) (gk:GK own.length g)
  (hg:∀ s H fp,PG (cxC X own fr sc s H fp) tg g) (ht:∀ s H fp,PIfs (cxC X own fr sc s H fp) ifs tt) (he:∀ s H fp,PE (cxC X own fr sc s H fp) elt te)
  (I2:Inv X pins σ H2 s2) (T:Turn X.prog X.w X.K tg J fp it tn) (st2:tn 0 s2.heap) (f2:∀ b∈fp,FpOk X pins H2 b) (L:lcLoop own fr g tt te σ Q J H2)
  (hRR:∀ D C s',(∃ m,s'.heap.Ns C m)->@LE.le Nat _ s2.heap.objs.size C->(∃ H',H' C=none/\Q (.ref D) H'/\∀ h' tk,Heap.SameBut C s'.heap h'->Inv X pins σ H' { s' with heap:=h',toks:=tk })->RR (.ref D) C (.ok .next) s') :
  wpAny (model X.prog X.w) X.A (newList []) (fun acc s₃=>wpAny (model X.prog X.w) X.A (newFunctionEnv sc X.env.globals (clOf X.env sc.names []) [] X.env.qual none .none (some X.env)) (fun cenv s₄ =>
   codeAny (model X.prog X.w) X.A (.compStart (.ListComp elt [⟨tg,iter,ifs,0⟩] sc pos) 0 (.ref it) acc { cenv with scope:=relabel sc X.env }) (RR acc cenv.locals) s₄) E s₃) E s2:=by
 obtain ⟨W,⟨m0,w0⟩,turn⟩:=L
 refine wpAny_newObj_type (newEnv_comp ?_)
 dsimp only
 generalize hh1:s2.heap.push { cls:=.type "list",dict:=none,data:=.seq ([]:List Value).toArray }=h1
 have hz:h1.objs.size=s2.heap.objs.size+1:=by rw [<- hh1,Heap.size_push]
 have hk1:∀ b o,s2.heap.get? b=some o->h1.get? b=some o:=fun b o e=>by rw [<- hh1];exact Heap.get?_push_of_some _ e
 have hD1:h1.get? s2.heap.objs.size=some { cls:=.type "list",data:=.seq ([]:List Value).toArray }:=by rw [<- hh1];exact Heap.get?_push_size _ rfl
 have hfl:∀ b∈fp,@LT.lt Nat _ b s2.heap.objs.size:=fun b hb=>by
  obtain ⟨o,e,_⟩:=T.obj _ _ st2 b hb
  exact Heap.lt_size e
 have I3:=inv_comp I2 S f2 hz hk1 hfl
 rw [hz]
 generalize hY:cxC X own fr sc s2 H2 fp=Y at I3
 have hD3:(hC s2 sc h1).get? s2.heap.objs.size=some { cls:=.type "list",data:=.seq ([]:List Value).toArray }:=pushCells_keeps _ _ _ _ (Heap.get?_push_of_some _ hD1)
 have st3:tn 0 (hC s2 sc h1):=T.keep _ _ _ st2 fun b _ o e=>pushCells_keeps _ _ _ _ (Heap.get?_push_of_some _ (hk1 b o e))
 have eP:Y.prog=X.prog:=by rw [<- hY];rfl
 have eW:Y.w=X.w:=by rw [<- hY];rfl
 have eK:Y.K=X.K:=by rw [<- hY];rfl
 have eA:Y.A=X.A:=by rw [<- hY];rfl
 have eX:Y.xe=Nev:=by rw [<- hY];rfl
 have ecm:Y.calm=true:=by rw [<- hY];exact hc
 have eEnv:({ scope:=relabel sc X.env,locals:=s2.heap.objs.size+1,globals:=X.env.globals,cells:=cellsFrom (s2.heap.objs.size+1+1) sc.names (clOf X.env sc.names []),qual:=X.env.qual,func:=none,code:=X.env.code,frame:=X.env.frame,builtins:=X.env.builtins }:Env)=Y.env:=by rw [<- hY];rfl
 have eL:Y.env.locals=s2.heap.objs.size+1:=by rw [<- hY];rfl
 rw [eEnv]
 have hg':PG Y tg g:=hY ▸ hg s2 H2 fp
 have ht':PIfs Y ifs tt:=hY ▸ ht s2 H2 fp
 have he':PE Y elt te:=hY ▸ he s2 H2 fp
 have dfp:s2.heap.objs.size ∉ fp:=fun z=>Nat.lt_irrefl _ (hfl _ z)
 have dC:s2.heap.objs.size≠s2.heap.objs.size+1:=Nat.ne_of_lt (Nat.lt_succ_self _)
 have cellN:∀ x c,Y.env.cells.lookup x=some c->c≠s2.heap.objs.size:=fun x c e z=>by
  obtain ⟨v,o,q,d⟩:=I3.cell x c e
  rw [z] at q
  have q':=hD3.symm.trans q
  cases q'
  cases d
 have hDfs:s2.heap.objs.size ∉ Y.fs:=by
  rw [<- hY]
  intro z
  rcases List.mem_cons.mp (I2.stkSub _ z) with e | e
  ·exact Nat.lt_irrefl _ (by have:=I2.lt;rw [<- e] at this;exact this)
  ·exact I2.nofs (Nat.le_refl _) e
 have hD0:@LE.le Nat _ Y.s₀.heap.objs.size s2.heap.objs.size:=by rw [<- hY];exact Nat.le_refl _
 have fpY:∀ {H':Hp} {pp:List (Addr × Obj)},(∀ b∈fp,H' b=none)->(∀ p∈pp,p.1 ∉ fp)->∀ b∈fp,FpOk Y pp H' b:=fun {H' pp} hn hp b hb=>by
  refine ⟨hn b hb,?_,?_,?_,?_,fun p hq z=>?_⟩
  ·have:=hfl b hb;rw [eL];intro z;have z':@Eq Nat b (s2.heap.objs.size+1):=z;omega
  ·rw [<- hY]
   intro z
   rcases List.mem_cons.mp (I2.stkSub _ z) with e | e
   ·exact (f2 b hb).2.1 e
   ·exact (f2 b hb).2.2.1 e
  ·exact .inl (by rw [<- hY];exact hb)
  ·exact (I3.ok.exf b (by rw [<- hY];exact hb)).2
  ·rcases List.mem_append.mp hq with q | q
   ·have:p∈([]:List (Addr × Obj)):=by rw [<- hY] at q;exact q
    exact nomatch this
   ·exact hp p q (z ▸ hb)
 have pinD:∀ {H':Hp} {s':Shared} {σ':St} {ob:Obj},Inv Y [] σ' H' s'->H' s2.heap.objs.size=none->s'.heap.get? s2.heap.objs.size=some ob->(∀ v,ob.data≠.cell v)->Inv Y [(s2.heap.objs.size,ob)] σ' H' s':=fun {H' s' σ' ob} J0 hn e d =>
  J0.pins_of fun p hp=>by
   have:p=(s2.heap.objs.size,ob):=by simpa using hp
   subst this
   exact ⟨e,hn,by rw [eL];exact dC,hDfs,d⟩
 have fpp:∀ {ob:Obj} (p:Addr × Obj),p∈[(s2.heap.objs.size,ob)]->p.1 ∉ fp:=fun {ob} p hp=>by
  have:p=(s2.heap.objs.size,ob):=by simpa using hp
  subst this;exact dfp
 have loop:codeAny (model X.prog X.w) X.A (.compLoop (.ListComp elt [⟨tg,iter,ifs,0⟩] sc pos) 0 (.ref it) (.ref s2.heap.objs.size) Y.env) (RR (.ref s2.heap.objs.size) (s2.heap.objs.size+1)) { s2 with heap:=hC s2 sc h1 }:=by
  refine Blk.loops (B:=⟨elt,tg,iter,ifs,sc,pos⟩) (fun n s'=>∃ i ys us k H',W i n ys H'/\Inv Y [] (cSt own fr σ) H' s'/\tn i s'.heap/\(∀ b∈fp,H' b=none)/\H' s2.heap.objs.size=none/\s'.heap.get? s2.heap.objs.size=some { cls:=.type "list",data:=.seq (List.toArray us) k }/\Vals ys us) ?_ (k:=m0)
   ⟨0,[],[],_,H2,w0,I3,st3,fun b hb=>(f2 b hb).1,I2.hok.fresh (Nat.le_refl _),hD3,.nil⟩
  rintro n s' ⟨i,ys,us,k,H',w',J0,st',fr',hDn,hDo,rv⟩
  obtain ⟨hyl,cases'⟩:=turn i n ys H' w'
  have J1:=pinD J0 hDn hDo (fun v z=>nomatch z)
  rcases cases' with ⟨stop,fin⟩ | ⟨go,step⟩
  ·have d0:=T.done Y eP eW eK ecm i _ s' _ H' Nev J1 (fpY fr' fpp) st' stop
   rw [eA] at d0
   refine wpAny_mono d0 (fun r s4 ⟨hr,J4⟩=>?_) fun _ _ z=>z
   subst hr
   have pD:=(J4.pin (s2.heap.objs.size,_) (List.mem_append_right _ List.mem_cons_self)).1
   refine hRR _ _ s4 ?_ (Nat.le_succ _) ⟨upd H' s2.heap.objs.size (.lst ys),?_,fin _ hDn,fun h' tk hs=>?_⟩
   ·obtain ⟨m,hn,_⟩:=J4.loc
    rw [eL] at hn
    exact ⟨m,hn⟩
   ·rw [upd_ne (Ne.symm dC),<- eL];exact J4.free
   ·subst hY
    have hO:ObjOk X.prog X.w (upd H' s2.heap.objs.size (.lst ys)) h' s2.heap.objs.size (.lst ys):=⟨hyl,us,k,rv,(hs.2 _ dC).trans pD⟩
    exact inv_back I2 f2 J4 (Nat.le_refl _) hDn dC hs hO tk
  ·have d0:=T.item Y eP eW eK ecm i _ s' _ H' Nev J1 (fpY fr' fpp) st' go
   rw [eA] at d0
   refine wpAny_mono d0 (fun r s4 ⟨u,hr,h4⟩=>?_) fun _ _ z=>z
   subst hr
   refine wpAny_mono h4 (fun _ s5 ⟨x,H5,J5,r5,y5,st5,fr5⟩=>?_) fun _ _ z=>z
   have J5':=J5.pinned (fpY fr5 fpp) (T.obj _ _ st5)
   have s1:=hg' _ s5 _ H5 x u _ J5' r5 (gk _ _ _ _ (step x H5 y5))
   rw [eP,eW,eA,eX] at s1
   refine wpAny_mono s1 (fun _ s6 ⟨σ6,H6,J6,q6,kp6⟩=>?_) fun _ _ z=>z
   have s2':=ht' _ s6 σ6 H6 _ J6 q6
   rw [eP,eW,eA,eX] at s2'
   refine wpAny_mono s2' (fun ok s7 ⟨H7,J7,q7⟩=>?_) fun _ _ z=>z
   have low:∀ {H8:Hp} {s8:Shared},Inv Y ([(s2.heap.objs.size,({ cls:=.type "list",data:=.seq (List.toArray us) k }:Obj))]++pinsAt fp s5.heap) σ6 H8 s8 ->
     Inv Y (pinsAt fp s5.heap) σ6 H8 s8/\H8 s2.heap.objs.size=none/\s8.heap.get? s2.heap.objs.size=some { cls:=.type "list",data:=.seq (List.toArray us) k }/\(∀ b∈fp,H8 b=none)/\tn (i+1) s8.heap:=fun {H8 s8} J8=>by
    have p8:=J8.pin (s2.heap.objs.size,_) (List.mem_append_right _ (List.mem_append_left _ List.mem_cons_self))
    refine ⟨J8.pins_of fun p hp=>J8.pin p (List.mem_append_right _ (List.mem_append_right _ hp)),p8.2.1,p8.1,fun b hb=>?_,T.keep _ _ _ st5 fun b hb o e=>(J8.pin (b,o) (List.mem_append_right _ (List.mem_append_right _ (mem_pinsAt hb e)))).1⟩
    obtain ⟨o,e,d⟩:=T.obj _ _ st5 b hb
    exact (J8.pin (b,o) (List.mem_append_right _ (List.mem_append_right _ (mem_pinsAt hb e)))).2.1
   have weak:∀ {H8:Hp} {s8:Shared} {pp:List (Addr × Obj)},Inv Y pp σ6 H8 s8->Inv Y [] (cSt own fr σ) H8 s8:=fun {H8 s8 pp} J8=>(J8.weak kp6.1.symm (fun j v e=>by
    by_cases hj:j < own.length
    ·exfalso
     unfold cSt at e
     rw [List.getElem?_append_left (by simpa using hj),List.getElem?_replicate] at e
     split at e<;>cases e
    ·rw [kp6.2 j (Nat.not_lt.mp hj)];exact e)).pins_of fun p hp=>nomatch hp
   cases ok with
   | false =>
    obtain ⟨m',hm,w7⟩:=(show ∃ m',m' < n/\W (i+1) m' ys H7 by simpa using q7)
    obtain ⟨_,l1,l2,l3,l4⟩:=low J7
    exact ⟨m',hm,i+1,ys,us,k,H7,w7,weak J7,l4,l3,l1,l2,rv⟩
   | true =>
    have q7':te σ6 H7 fun y H6=>∃ m',m' < n/\W (i+1) m' (ys++[y]) H6:=by simpa using q7
    have s3:=he' _ s7 σ6 H7 _ J7 q7'
    rw [eP,eW,eA,eX] at s3
    show wpAny _ _ _ _ _ _
    refine wpAny_mono s3 (fun xv s8 ⟨y,H8,J8,r8,m',hm,w8⟩=>?_) fun _ _ z=>z
    obtain ⟨J8a,l1,l2,l3,l4⟩:=low J8
    refine append_at (hsz:=by rw [List.size_toArray,<- rv.length];exact hyl) l2 fun h' hs' hD'=>?_
    have J9:Inv Y [] (cSt own fr σ) H8 { s8 with heap:=h' }:=by
     refine (weak J8a).turned (t':=s8.toks) (it:=s2.heap.objs.size) (fun b o hb e=>(hs'.2 b hb).trans e) l1 (by rw [eL];exact dC) (.inr hD0) cellN fun p hp=>?_
     have:p∈([]:List (Addr × Obj)):=by rw [<- hY] at hp;exact hp
     exact nomatch this
    refine ⟨m',hm,i+1,ys++[y],us++[xv],k+1,H8,w8,J9,?_,l3,l1,?_,rv.append (.cons r8 .nil)⟩
    ·exact T.keep _ _ _ l4 fun b hb o e=>(hs'.2 b (fun z=>dfp (z ▸ hb))).trans e
    ·rw [hD'];simp
 exact codeAny_compStart_list loop (T.self X.A 0 _ _ _ st3 loop)
theorem pe_lc (own:List Str) (fr:List Nat) (hc:X.calm=true) (S:CompSc X own fr sc) (gk:GK own.length g) (hi:PI X tg iter wi)
  (hg:∀ s H fp,PG (cxC X own fr sc s H fp) tg g) (ht:∀ s H fp,PIfs (cxC X own fr sc s H fp) ifs tt) (he:∀ s H fp,PE (cxC X own fr sc s H fp) elt te)
  (hs:∀ x,foldedSetIterable iter X.env x=pure x:=by intro _;rfl):PE X (.ListComp elt [⟨tg,iter,ifs,0⟩] sc pos) (tLC own fr wi g tt te):=by
 intro pins s σ H Q I h
 rw [eval_ListComp]
 have hclos:closureFor sc X.env=pure (clOf X.env sc.names []):=closureFor_of fun y hy hf=>I.ok.has y.1 (by
  rcases S.fre y hy hf with q | q
  ·exact .inl q
  ·exact .inr q)
 refine wpAny_comprehension_free (use:=none) rfl hs hclos S.kind (fun y hy hl=>lookup_of_mem_nd S.nd (by rw [<- hl];exact hy)) ?_
 refine thn (hi pins s σ H _ I h) fun v s1 h1=>thn h1 fun itv s2 h2=>?_
 obtain ⟨it,fp,tn,J,H2,e,I2,T,st2,f2,L⟩:=h2
 subst e
 exact lc_core hc S gk hg ht he I2 T st2 f2 L fun D C s' ⟨m,hn⟩ _ ⟨H',_,q,hi⟩=>⟨m,hn,fun h' hs'=>⟨.ref D,H',hi h' s'.toks hs',rfl,q⟩⟩
end
theorem stored_use {X:Cx} {pins:List (Addr × Obj)} {σ:St} {H2:Hp} {s2 s':Shared} {i:Nat} {x:Str} {pos':Pos} {D:Addr} {C:Addr} {R:St->Hp->Prop} {E:Value->Shared->Prop} (I2:Inv X pins σ H2 s2) (hN:X.N.Nodup) (hi:X.N[i]?=some x) (hx:X.env.scope.names.lookup x=some .local)
  (ns:∃ m,s'.heap.Ns C m) (le:@LE.le Nat _ s2.heap.objs.size C) (h:∃ H',H' C=none/\R (σ.set i (some (.ref D))) H'/\∀ h' tk,Heap.SameBut C s'.heap h'->Inv X pins σ H' { s' with heap:=h',toks:=tk }) :
  wpAny (model X.prog X.w) X.A (assign (.Name x pos') X.env (.ref D)) (fun _ s''=>∃ m,s''.heap.Ns C m/\∀ h',Heap.SameBut C s''.heap h'->∃ σ1 H1,Inv X pins σ1 H1 { s'' with heap:=h' }/\R σ1 H1) E s':=by
 obtain ⟨H',hC,q,hv⟩:=h
 have I':Inv X pins σ H' s':=hv s'.heap s'.toks (Heap.SameBut.refl _ _)
 have lt:∀ {b:Addr} {o:Obj},s2.heap.get? b=some o->b≠C:=fun {b o} e z=>by
  have l1:@LT.lt Nat _ b s2.heap.objs.size:=Heap.lt_size e
  have z':@Eq Nat b C:=z
  omega
 have hLC:X.env.locals≠C:=by
  obtain ⟨m,⟨o,_,_,e,_⟩,_⟩:=I2.loc
  exact lt e
 have hcell:∀ y c,X.env.cells.lookup y=some c->c≠C:=fun y c e=>by
  obtain ⟨v,o,e1,_⟩:=I2.cell y c e
  exact lt e1
 refine wpAny_assign_Name (store_ok2 I' hN hi (.inl hx) (show RelV (.ref D) (.ref D) from rfl) (fun s3 I3 ⟨a,hs,ha⟩=>?_) (.inr hx))
 have aC:a≠C:=by
  rcases ha with e | e
  ·rw [e];exact hLC
  ·exact hcell _ _ e
 obtain ⟨m,hn⟩:=ns
 refine ⟨m,hn.sameBut hs (Ne.symm aC),fun h' hs'=>⟨_,H',?_,q⟩⟩
 refine I3.turned (t':=s3.toks) (it:=C) (fun b o hb e=>(hs'.2 b hb).trans e) hC (Ne.symm hLC) (.inr ?_) hcell fun p hp=>?_
 ·have:=I2.sz
  exact Nat.le_trans this le
 ·exact lt (I2.pin p hp).1
theorem ps_setL {X:Cx} {sc:Scope} {tg iter elt:Expr} {ifs:List Expr} {pos spos pos':Pos} {wi:TI} {g:TG} {tt:TT} {te:TE} {i:Nat} {x:Str} (own:List Str) (fr:List Nat) (hN:X.N.Nodup) (hix:X.N[i]?=some x) (hx:X.env.scope.names.lookup x=some .local) (hc:X.calm=true) (S:CompSc X own fr sc) (gk:GK own.length g) (hi:PI X tg iter wi)
  (hg:∀ s H fp,PG (cxC X own fr sc s H fp) tg g) (ht:∀ s H fp,PIfs (cxC X own fr sc s H fp) ifs tt) (he:∀ s H fp,PE (cxC X own fr sc s H fp) elt te)
  (hsw:swapsWith (.ListComp elt [⟨tg,iter,ifs,0⟩] sc pos) (some (.Name x pos')) spos.line X.env=pure true:=by rfl)
  (hs:∀ x,foldedSetIterable iter X.env x=pure x:=by intro _;rfl):PS X (.Assign [.Name x pos'] (.ListComp elt [⟨tg,iter,ifs,0⟩] sc pos) spos) (tAsg (tLC own fr wi g tt te) (gName i)):=by
 intro pins s σ H D I h
 rw [exec_Assign_Name_used _ _ _ _ hsw]
 apply wpAny_bind;apply wpAny_standAt;apply wpAny_bind
 show wpAny _ _ (comprehension (.ListComp elt [⟨tg,iter,ifs,0⟩] sc pos) sc X.env _ (newList []) false (eval iter X.env) (some (assign (.Name x pos') X.env)) >>= _) _ _ s
 apply wpAny_bind
 have hclos:closureFor sc X.env=pure (clOf X.env sc.names []):=closureFor_of fun y hy hf=>I.ok.has y.1 (by
  rcases S.fre y hy hf with q | q
  ·exact .inl q
  ·exact .inr q)
 refine wpAny_mono (wpAny_comprehension_free (use:=some (assign (.Name x pos') X.env)) (Q:=fun _ s'=>SP X pins D .next s') rfl hs hclos S.kind (fun y hy hl=>lookup_of_mem_nd S.nd (by rw [<- hl];exact hy)) ?_) (fun _ s' q=>wpAny_pure (wpAny_pure q)) fun _ _ z=>z
 refine thn (hi pins s σ H _ I h) fun v s1 h1=>thn h1 fun itv s2 h2=>?_
 obtain ⟨it,fp,tn,J,H2,e,I2,T,st2,f2,L⟩:=h2
 subst e
 exact lc_core hc S gk hg ht he I2 T st2 f2 L fun D0 C s' ns le h=>stored_use (R:=D.nx) I2 hN hix hx ns le h
def Its (x:Str):It:=⟨fun i _=>i < x.cps.size,fun i H v H'=>H'=H/\∃ c,x.cps[i]?=some c/\v=.str ⟨#[c]⟩,fun i _=>i=x.cps.size⟩
theorem go_str {M:Model} {A:Around} {E:Value->Shared->Prop} {s:Shared} {tg:Expr} {it:Addr} {x:Str} {t:Tok} {Q:Unit->Shared->Prop} (hQ:Q () s):wpAny M A (letOwnedTupleGo tg (.ref it) (.str x t)) Q E s:=by
 unfold letOwnedTupleGo
 cases tg<;>exact wpAny_pure hQ
theorem turn_str {P:Program} {w:World} {K:PySem.W.Frag} {tg:Expr} {it:Addr} {x:Str} {t:Tok} {ty:String} (W:∀ A:Around,A.handled=none->Walks P w A it [it] [it] x.cps.size (SignAt x) (fun i h=>h.IsStrIter it ty x t i))
  (hself:∀ (A:Around) (i:Nat) (s:Shared) (Q:Value->Shared->Prop) (E:Value->Shared->Prop),s.heap.IsStrIter it ty x t i->Q (.ref it) s->wpAny (model P w) A (pyIter (.ref it)) Q E s) :
  Turn P w K tg (Its x) [it] it (fun i h=>h.IsStrIter it ty x t i) where
 mem:=by simp
 obj:=fun i h st b hb=>by
  have e:b=it:=by simpa using hb
  subst e
  obtain ⟨o,e,c,d⟩:=st
  exact ⟨o,e,fun v z=>by rw [d] at z;cases z⟩
 keep:=fun i h h' st k=>by
  obtain ⟨o,e,r⟩:=st
  exact ⟨o,k it (by simp) o e,r⟩
 item:=by
  intro X hP hw hK hc i pins s σ H E I hf st hg
  subst hP hw hK
  obtain ⟨f0,f1,f2,f3,f4,f5⟩:=hf it (by simp)
  refine (W X.A (I.ok.hd hc)).item i s _ _ hg st fun v h' tk hv st' kk=>?_
  obtain ⟨c,u,hx,rfl⟩:=hv
  have I1:Inv X pins σ H { s with heap:=h',toks:=tk }:=I.turned (fun b o hb e=>kk b o (by simpa using hb) e) f0 f1 f3 f4 f5
  exact ⟨_,rfl,go_str ⟨.str ⟨#[c]⟩,H,I1,⟨u,rfl⟩,⟨rfl,c,hx,rfl⟩,st',fun b hb=>(hf b hb).1⟩⟩
 done:=by
  intro X hP hw hK hc i pins s σ H E I hf st hg
  subst hP hw hK
  obtain ⟨f0,f1,f2,f3,f4,f5⟩:=hf it (by simp)
  have hg':i=x.cps.size:=hg
  subst hg'
  exact (W X.A (I.ok.hd hc)).done s _ _ st fun h' tk kk=>⟨rfl,I.turned (fun b o hb e=>kk b o (by simpa using hb) e) f0 f1 f3 f4 f5⟩
 self:=hself
section
variable {X:Cx} {tg:Expr}
def iStr (tl:TE):TI:=fun σ H R=>tl σ H fun x H1=>∃ z,x=.str z/\R (Its z) H1
theorem pi_str {l:Expr} {tl:TE} (hl:PE X l tl):PI X tg l (iStr tl):=by
 intro pins s σ H R I h
 refine thn (hl pins s σ H _ I h) fun v s1 ⟨x,H1,I1,r1,q1⟩=>?_
 obtain ⟨z,rfl,q⟩:=q1
 obtain ⟨t,rfl⟩:=r1
 have fin:∀ ty:String,(∀ A:Around,A.handled=none->Walks X.prog X.w A s1.heap.objs.size [s1.heap.objs.size] [s1.heap.objs.size] z.cps.size (SignAt z) (fun i h=>h.IsStrIter s1.heap.objs.size ty z t i)) ->
   (∀ (A:Around) (i:Nat) (s:Shared) (Q:Value->Shared->Prop) (E:Value->Shared->Prop),s.heap.IsStrIter s1.heap.objs.size ty z t i->Q (.ref s1.heap.objs.size) s->wpAny (model X.prog X.w) A (pyIter (.ref s1.heap.objs.size)) Q E s) ->
   PIE X pins σ tg R (.ref s1.heap.objs.size) { s1 with heap:=s1.heap.push { cls:=.type ty,data:=.fields #[.str z t,.int 0 0] } }:=fun ty W hself=>by
  refine ⟨s1.heap.objs.size,[s1.heap.objs.size],_,_,H1,rfl,I1.kept (t':=s1.toks) fun b o e=>Heap.get?_push_of_some _ e,turn_str W hself,⟨_,Heap.get?_push_size _ rfl,rfl,rfl⟩,fun b hb=>?_,q⟩
  have e:b=s1.heap.objs.size:=by simpa using hb
  subst e
  exact I1.fpOk (Nat.le_refl _) (I1.hok.fresh (Nat.le_refl _))
 cases ha:z.cps.all (· < 128)
 ·exact wpAny_pyIter_wide ha (fin _ (fun A hA=>Walks.strWide hA _ z t) fun A i s Q E st q=>wpAny_pyIter_striter_wide st q)
 ·exact wpAny_pyIter_ascii ha (fin _ (fun A hA=>Walks.strAscii hA _ z t) fun A i s Q E st q=>wpAny_pyIter_striter_ascii st q)
theorem vals_bl_get:∀ {bs:List Bool} {us:List Value} {i:Nat} {u:Value},Vals (bs.map V.bl) us->us[i]?=some u->∃ b,bs[i]?=some b/\u=.bool b
 | [],_,i,u,.nil,e=>by simp at e
 | b::bs,_,0,u,.cons r _,e=>by simp at e;subst e;exact ⟨b,rfl,r⟩
 | b::bs,_,i+1,u,.cons _ t,e=>by
  obtain ⟨b',h1,h2⟩:=vals_bl_get (i:=i) (u:=u) t (by simpa using e)
  exact ⟨b',by simpa using h1,h2⟩
theorem range_all (bs:List Bool):((List.range bs.length).all fun i=>bs.getD i false)=bs.all id:=by
 induction bs with
 | nil=>rfl
 | cons b bs ih =>
  rw [List.length_cons,List.range_succ_eq_map,List.all_cons,List.all_map,List.all_cons]
  have e:((fun i=>(b::bs).getD i false) ∘ Nat.succ)=fun i=>bs.getD i false:=by funext i;simp
  rw [e,ih];simp
theorem call_all (hc:X.calm=true):CallR X (.builtin "all") (fun xs H Q=>∃ (p:Addr) (bs:List Bool),xs=[.ref p]/\SqL X.K H p (bs.map V.bl)/\Q (.bl (bs.all id)) H):=by
 intro pins s σ H xs us Q I r h
 obtain ⟨p,bs,rfl,hq,q⟩:=h
 obtain ⟨u,rfl,rx⟩:=vals1 r
 cases rx
 obtain ⟨its,rv,pl,hz⟩:=I.list hq
 have hlt:p < s.heap.objs.size:=by obtain ⟨o,n,e,_⟩:=pl;exact Heap.lt_size e
 have hlen:its.length=bs.length:=by rw [<- rv.length,List.length_map]
 refine call_all_walk (wpAny_pyIter_list pl.isList ?_)
 refine ⟨s.heap.objs.size,_,_,its.toArray.size,_,_,fun i=>bs.getD i false,rfl,Walks.list (A:=X.A.in1) (I.ok.hd hc) s.heap.objs.size p (Nat.ne_of_lt hlt) its.toArray,⟨⟨_,Heap.get?_push_size _ rfl,rfl,rfl⟩,pl.isList.push _⟩,fun i v s' Q' E' hP hQ=>?_,fun h' tk hk=>?_⟩
 ·obtain ⟨b,h1,rfl⟩:=vals_bl_get rv (by simpa using hP)
  refine wpAny_truthy_bool ?_
  have e:bs.getD i false=b:=by rw [List.getD,h1];rfl
  rw [<- e];exact hQ
 ·rw [List.size_toArray,hlen,range_all]
  refine ⟨.bl _,H,?_,rfl,q⟩
  have J:Inv X pins σ H { s with heap:=h',toks:=tk }:=I.kept fun b o e=>hk b o (fun z=>absurd (Heap.lt_size e) (by rw [List.mem_singleton.mp z];exact Nat.lt_irrefl _)) (Heap.get?_push_of_some _ e)
  exact J
theorem call_isinst {T:String}:CallR X (.builtin "isinstance") (fun xs H Q=>∃ x t b,xs=[x,.ty T]/\TyOf X.K H x t/\PySem.W.kitOne X.K t (.type T)=some b/\Q (.bl b) H):=by
 intro pins s σ H xs us Q I r h
 obtain ⟨x,t,b,rfl,ty,e,q⟩:=h
 obtain ⟨u,v,rfl,ru,rv⟩:=vals2 r
 cases rv
 exact isinst_ok I ru ty e fun tk=>⟨.bl b,H,I.tok _,rfl,q⟩
theorem strs_of:∀ {ys:List Str} {us:List Value},Vals (ys.map V.str) us->StrsAre us ys
 | [],_,.nil=>.nil
 | y::ys,_,.cons r t=>by obtain ⟨k,rfl⟩:=(show ∃ k,_=Value.str y k from r);exact .cons y k (strs_of t)
theorem mt_join:MtR X "str.join" (fun x vs H Q=>∃ (sep:Str) (p:Addr) (ys:List Str),x=.str sep/\vs=[.ref p]/\SqL X.K H p (ys.map V.str)/\(ys.map (·.length)).sum+ys.length * sep.length<=16777216/\Q (.str (Txt.join sep ys)) H):=by
 intro pins s σ H x xs v us Q I rx r h
 obtain ⟨sep,p,ys,rfl,rfl,hq,hl,q⟩:=h
 obtain ⟨u,rfl,ru⟩:=vals1 r
 cases ru
 obtain ⟨t,rfl⟩:=rx
 obtain ⟨its,rv,pl,hz⟩:=I.list hq
 exact join_list pl.isList (by simpa using strs_of rv) hl fun t' k=>⟨.str _,H,I.tok _,⟨t',rfl⟩,q⟩
theorem op_le_str:OpR X (compareOp .LtE) (fun x y H Q=>∃ i j,x=.str i/\y=.str j/\Q (.bl (!decide (j.cps.toList < i.cps.toList))) H):=by
 intro pins s σ H x y v u Q I rx ry h
 obtain ⟨i,j,rfl,rfl,q⟩:=h
 obtain ⟨t,rfl⟩:=rx
 obtain ⟨t',rfl⟩:=ry
 exact PySem.P.le_str ⟨.bl _,H,I,rfl,by simpa using q⟩
end
theorem lc_range {own:List Str} {fr:List Nat} {g:TG} {tt:TT} {te:TE} {σ:St} {Q:VK} {lo:Int} {n:Nat} {H:Hp} (Pv:Nat->List V->Hp->Prop) (h0:Pv 0 [] H) (hlen:∀ i ys H,i<=n->Pv i ys H->ys.length<=sizeLine)
  (hs:∀ i ys H (R:List V->Hp->Prop),i < n->Pv i ys H->(∀ ys' H',Pv (i+1) ys' H'->R ys' H')->g (.int (lo+i)) (cSt own fr σ) H fun σ4 H4=>tt σ4 H4 fun b H5=>if b=true then te σ4 H5 fun y H6=>R (ys++[y]) H6 else R ys H5)
  (hd:∀ ys H,Pv n ys H->∀ D,H D=none->Q (.ref D) (upd H D (.lst ys))):lcLoop own fr g tt te σ Q (Itr lo n) H:=by
 refine ⟨fun i m ys H=>m=n - i/\i<=n/\Pv i ys H,⟨n,rfl,Nat.zero_le _,h0⟩,?_⟩
 rintro i m ys H2 ⟨rfl,hi,p⟩
 refine ⟨hlen i ys H2 hi p,?_⟩
 by_cases h:i < n
 ·refine .inr ⟨h,fun x H3 hy=>?_⟩
  obtain ⟨rfl,rfl⟩:=hy
  exact hs i ys _ (fun ys' H'=>∃ m',m' < n - i/\(m'=n - (i+1)/\i+1<=n/\Pv (i+1) ys' H')) h p fun ys' H' q=>⟨n - (i+1),by omega,rfl,h,q⟩
 ·have e:i=n:=by omega
  subst e
  exact .inl ⟨Nat.le_refl _,hd ys H2 p⟩
theorem lc_list {K:PySem.W.Frag} {a:Addr} {xs:List V} {own:List Str} {fr:List Nat} {g:TG} {tt:TT} {te:TE} {σ:St} {Q:VK} {H:Hp} (Pv:Nat->List V->Hp->Prop) (h0:Pv 0 [] H) (hlen:∀ i ys H,i<=xs.length->Pv i ys H->ys.length<=sizeLine)
  (hl:∀ i ys H,i<=xs.length->Pv i ys H->SqL K H a xs)
  (hs:∀ i x ys H (R:List V->Hp->Prop),xs[i]?=some x->Pv i ys H->(∀ ys' H',Pv (i+1) ys' H'->R ys' H')->g x (cSt own fr σ) H fun σ4 H4=>tt σ4 H4 fun b H5=>if b=true then te σ4 H5 fun y H6=>R (ys++[y]) H6 else R ys H5)
  (hd:∀ ys H,Pv xs.length ys H->∀ D,H D=none->Q (.ref D) (upd H D (.lst ys))):lcLoop own fr g tt te σ Q (Itl K a) H:=by
 refine ⟨fun i m ys H=>m=xs.length - i/\i<=xs.length/\Pv i ys H,⟨xs.length,rfl,Nat.zero_le _,h0⟩,?_⟩
 rintro i m ys H2 ⟨rfl,hi,p⟩
 refine ⟨hlen i ys H2 hi p,?_⟩
 have q:=hl i ys H2 hi p
 by_cases h:i < xs.length
 ·refine .inr ⟨⟨xs,xs[i],q,by simp [h]⟩,fun x H3 hy=>?_⟩
  obtain ⟨rfl,hy⟩:=hy
  exact hs i x ys _ (fun ys' H'=>∃ m',m' < xs.length - i/\(m'=xs.length - (i+1)/\i+1<=xs.length/\Pv (i+1) ys' H')) (hy xs q) p fun ys' H' q=>⟨xs.length - (i+1),by omega,rfl,h,q⟩
 ·have e:i=xs.length:=by omega
  subst e
  exact .inl ⟨⟨xs,q,Nat.le_refl _⟩,hd ys H2 p⟩
theorem ObjOk.there {P:Program} {w:World} {H:Hp} {h:Heap} {a:Addr} {o:HO} (x:ObjOk P w H h a o):∃ u,h.get? a=some u:=by
 cases o with
 | lst xs=>obtain ⟨_,_,_,_,e⟩:=x;exact ⟨_,e⟩
 | tup xs=>obtain ⟨_,_,_,o,e,_⟩:=x;exact ⟨_,e⟩
 | dK kvs=>obtain ⟨_,_,_,_,o,_,_,e,_⟩:=x;exact ⟨_,e⟩
 | dT kvs=>obtain ⟨_,_,_,_,o,_,_,e,_⟩:=x;exact ⟨_,e⟩
 | set S n=>obtain ⟨o,_,_,_,e,_⟩:=x;exact ⟨_,e⟩
 | ins C dx fs=>obtain ⟨_,_,_,e,_⟩:=x;exact ⟨_,e⟩
 | own y=>exact x
 | xd fs=>obtain ⟨_,⟨_,_,_,e,_⟩,_⟩:=x;exact ⟨_,e⟩
 | rng lo hi=>obtain ⟨_,_,_,e⟩:=x;exact ⟨_,e⟩
 | frz ob u=>obtain ⟨e,_⟩:=x;exact ⟨_,e⟩
 | tbl ps=>exact ⟨_,(show h.get? a=some _ from x)⟩
 | met f y=>exact ⟨_,(show h.get? a=some _ from x)⟩
 | ext φ=>obtain ⟨_,e,_⟩:=x;exact e
structure Fly (P:Program) (w:World) (outer:List Env) (H:Hp) (s:Shared) (H':Hp) (a:Addr) (cls:Value) (s':Shared):Prop where
 os:s'.os=s.os
 bare:AllBare s'.gens
 un:Un (frs outer) [] H H' s.heap s'.heap
 hok:HOk P w H' s'.heap
 an:H' a=none
 fly:∃ (B:Heap) (a0:Value),Heap.FlyingW B outer a cls a0 s'.heap/\∀ b o,s'.heap.get? b=some o->((∃ q,s.heap.get? b=some q)\/∃ u,H' b=some u)->b ∉ frs outer->B.get? b=some o
def CXO (P:Program) (w:World):CXT:=fun outer H s E e s'=>∃ a cls H',e=.ref a/\Fly P w outer H s H' a cls s'/\E cls none H'
theorem passN {P:Program} {w:World} {X:Cx}:Passes (CXO P w) X E0:=fun _ _ _ _ _ _ _ ⟨_,_,_,_,_,h⟩=>h.elim
section
variable {CX:CXT} {P:Program} {w:World} {K:PySem.W.Frag} {mg:Str->Option Value} {base:Heap} {N:List Str} {qual:Str} {scope:Scope} {f:Addr} {cdv:Value} {A:Around} {outer:List Env} {s s1 s2:Shared} {H H1 H2:Hp} {E:XK}
 {pins:List (Addr × Obj)} {σ:St} {a:Addr} {cls a0:Value} {B h':Heap}
theorem fly_out (I:Inv (cxOf CX P w K mg base N qual scope f cdv A outer s H E) pins σ H1 s1) (os:s2.os=s1.os) (bare:AllBare s2.gens)
  (un:Un (frs (envOfC qual scope s.heap.objs.size f cdv::outer)) [] H1 H2 s1.heap s2.heap) (hok:HOk P w H2 s2.heap) (an:H2 a=none)
  (hB:∀ b o,s2.heap.get? b=some o->((∃ q,s1.heap.get? b=some q)\/∃ u,H2 b=some u)->b ∉ frs (envOfC qual scope s.heap.objs.size f cdv::outer)->B.get? b=some o)
  (hfl:Heap.FlyingW B outer a cls a0 h') (hsl:∀ b∈frs outer,∀ o,s2.heap.get? b=some o->∃ sl,h'.get? b=some { o with slots:=sl }):Fly P w outer H s H2 a cls { s2 with heap:=h' }:=by
 have fr:frs (envOfC qual scope s.heap.objs.size f cdv::outer)=s.heap.objs.size::frs outer:=rfl
 have old:∀ b o,s.heap.get? b=some o->b≠s.heap.objs.size:=fun b o e=>Nat.ne_of_lt (Heap.lt_size e)
 have nin:∀ b,b≠s.heap.objs.size->b ∉ frs outer->b ∉ frs (envOfC qual scope s.heap.objs.size f cdv::outer):=fun b h1 h2 z=>by
  rw [fr] at z
  rcases List.mem_cons.mp z with z | z
  ·exact h1 z
  ·exact h2 z
 have u1:Un (frs outer) [] H H1 s.heap s1.heap:=I.base
 have hst:∀ b∈frs (envOfC qual scope s.heap.objs.size f cdv::outer),H2 b=none:=fun b hb=>by
  obtain ⟨_,o,e,_⟩:=I.stack.mem (show b∈(envOfC qual scope s.heap.objs.size f cdv::outer).filterMap (·.frame) from hb)
  exact un.free b o e (I.stkFree b hb) (by simp)
 have there2:∀ b o,s.heap.get? b=some o->∃ o',s2.heap.get? b=some o':=fun b o e=>by
  obtain ⟨o1,e1⟩:=u1.there b o e (by simp)
  exact un.there b o1 e1 (by simp)
 have inB:∀ b o,s.heap.get? b=some o->b ∉ frs outer->∀ o2,s2.heap.get? b=some o2->h'.get? b=some o2:=fun b o e hb o2 e2=>by
  obtain ⟨o1,e1⟩:=u1.there b o e (by simp)
  exact hfl.1 b o2 (hB b o2 e2 (.inl ⟨o1,e1⟩) (nin b (old b o e) hb))
 have trB:∀ b u,H2 b=some u->∀ o2,s2.heap.get? b=some o2->h'.get? b=some o2:=fun b u e o2 e2 =>
  hfl.1 b o2 (hB b o2 e2 (.inr ⟨u,e⟩) fun z=>by rw [hst b z] at e;cases e)
 refine ⟨os.trans I.os,bare,⟨fun b o e n hb hx=>?_,fun b o e n hb hx=>?_,fun b o e n hx=>?_,fun b o e hx=>?_,fun b xs e=>un.tups b xs (u1.tups b xs e),fun b o u e=>un.frzs b o u (u1.frzs b o u e),fun b ps e=>?_⟩,fun b u e=>?_,an,⟨B,a0,hfl,fun b o e hh hb=>?_⟩⟩
 ·exact inB b o e hb o (un.keep b o (u1.keep b o e n hb hx) (u1.free b o e n hx) (nin b (old b o e) hb) hx)
 ·obtain ⟨sl,e1⟩:=u1.slot b o e n hb hx
  obtain ⟨sl2,e2⟩:=un.any e1 (u1.free b o e n hx) hx
  obtain ⟨sl3,e3⟩:=hsl b hb _ e2
  exact ⟨sl3,e3⟩
 ·obtain ⟨o1,e1⟩:=u1.there b o e hx
  exact un.free b o1 e1 (u1.free b o e n hx) hx
 ·obtain ⟨o2,e2⟩:=there2 b o e
  by_cases hb:b∈frs outer
  ·obtain ⟨sl,e3⟩:=hsl b hb _ e2
   exact ⟨_,e3⟩
  ·exact ⟨o2,inB b o e hb o2 e2⟩
 ·obtain ⟨m1,e1⟩:=u1.tbls b ps e
  obtain ⟨m2,e2⟩:=un.tbls b _ e1
  exact ⟨m1++m2,by rw [e2,Array.append_assoc]⟩
 ·refine (hok b u e).stay (fun c v hc q=>?_) (fun _ q=>q) fun _ _ q=>q
  rcases hc with z | z
  ·subst z;exact trB c u e v q
  ·exact trB c _ z v q
 ·rcases hh with ⟨q,hq⟩ | ⟨u,hu⟩
  ·obtain ⟨o2,e2⟩:=there2 b q hq
   have e3:=inB b q hq hb o2 e2
   have e':h'.get? b=some o:=e
   rw [e3] at e';cases e'
   obtain ⟨o1,e1⟩:=u1.there b q hq (by simp)
   exact hB b _ e2 (.inl ⟨o1,e1⟩) (nin b (old b q hq) hb)
  ·obtain ⟨o2,e2⟩:=(hok b u hu).there
   have e3:=trB b u hu o2 e2
   have e':h'.get? b=some o:=e
   rw [e3] at e';cases e'
   exact hB b _ e2 (.inr ⟨u,hu⟩) fun z=>by rw [hst b z] at hu;cases hu
theorem own_cls {K:PySem.W.Frag} {h:Heap} {mg:Str->Option Value} {x:Str} {C:Addr} {bmB:List Value} {newId:String} (X:K.In h) (b:mg x=some (.ref C)) (q:PySem.W.excIn K C bmB newId=true):OwnCls x C bmB newId mg h:=by
 have no:∀ {P:Prop},false=true->P:=fun z=>absurd z Bool.false_ne_true
 unfold PySem.W.excIn at q
 split at q<;>first | exact no q | skip
 next dict data slots found =>
 split at q<;>first | exact no q | skip
 next first above w0 w1 w2 w3 made w5 order listed =>
 simp only [Bool.and_eq_true] at q
 obtain ⟨⟨⟨⟨⟨isC,isNew⟩,noDel⟩,tail⟩,ok⟩,noInit⟩:=q
 have eC:first=C:=beq_iff_eq.mp isC
 have eN:made=newId:=beq_iff_eq.mp isNew
 have eD:data.hasDel=false:=by simpa using noDel
 have eS:slots=#[w0,w1,w2,w3,some (.builtin made),w5]:=Array.toList_inj.mp (by rw [listed])
 cases data
 simp only at order eD
 subst eC eN order eD eS
 exact { bound:=b,obj:=⟨above,_,_,_,_,_,_,_,_,_,dict,w0,w1,w2,w3,w5,_,X _ _ found,.of_isNs (PySem.W.isNs_of_in X ok),PySem.W.nsMap_none_of_in X ok (by simpa using noInit),PySem.W.tail_of_in X tail⟩ }
def tRaise (C:Addr) (t:TA) (E:XK):TS:=fun D σ H=>t σ H fun vs H1=>vs.length<=sizeLine/\E (.ref C) none H1
theorem ps_raise {x:Str} {C:Addr} {bm:List Value} {Bn newId initId:String} {np cpos pos:Pos} {e₀:Expr} {rest:List Expr} {t:TA} (hx:Gl (cxOf (CXO P w) P w K mg base N qual scope f cdv A outer s H E) x) (b:mg x=some (.ref C)) (q:PySem.W.excIn K C bm newId=true) (FB:ExcBaseFacts Bn newId initId bm)
  (ha:PA (cxOf (CXO P w) P w K mg base N qual scope f cdv A outer s H E) (e₀::rest) t) (hd:(x == ("__debug__" : Str))=false:=by decide)
  (he:starEach (e₀::rest) (envOfC qual scope s.heap.objs.size f cdv)=(false,eval e₀ (envOfC qual scope s.heap.objs.size f cdv))::starEach rest (envOfC qual scope s.heap.objs.size f cdv):=by rfl)
  (hplain:(backTo cpos (starEach rest (envOfC qual scope s.heap.objs.size f cdv))).any (·.1)=false:=by rfl) :
  PS (cxOf (CXO P w) P w K mg base N qual scope f cdv A outer s H E) (.Raise (some (.Call (.Name x np) (e₀::rest) [] cpos)) none pos) (tRaise C t E):=by
 intro pins s0 σ H0 D I h
 obtain ⟨tl,Nn,nm,q',bs,hdct,sn,sub,ab,col,dd,k0,k1,k2,k3,k5,mN,hC,hN,hni,T⟩:=(own_cls I.mod.kin b q).obj
 refine wpAny_Raise_call_subT (C:=C) (nm:=nm) (q:=q') (N:=Nn) (bs:=bs) (bm:=tl) (hdct:=hdct) (sn:=sn) (sub:=sub) (ab:=ab) (col:=col) (dd:=dd) (k0:=k0) (k1:=k1) (k2:=k2) (k3:=k3) (k5:=k5)
  FB (mN:=mN) (T.hasType FB.hasBase) (I.ok.hd rfl) (by show (backTo cpos (starEach (e₀::rest) (envOfC qual scope s.heap.objs.size f cdv))).any _=false;rw [he];show (false || (backTo cpos (starEach rest (envOfC qual scope s.heap.objs.size f cdv))).any (·.1))=false;rw [hplain];rfl) hni (ld_glob I hx b ⟨rfl,?_⟩ hd)
 have hA:=ha cpos pins s0 σ H0 _ I h
 have he':starEach (e₀::rest) (cxOf (CXO P w) P w K mg base N qual scope f cdv A outer s H E).env=(false,eval e₀ (cxOf (CXO P w) P w K mg base N qual scope f cdv A outer s H E).env)::starEach rest (cxOf (CXO P w) P w K mg base N qual scope f cdv A outer s H E).env:=he
 rw [he'] at hA ⊢
 refine Calls.evalArgs_plain (wpAny_mono hA (fun us s2 ⟨vs,H2,I2,rv,hz,hE⟩=>⟨rfl,by rw [<- rv.length];exact hz,I2.bk _ _ hC,hN.keeps I2.bk,T.keeps I2.bk,fun h' e hx'=>?_⟩) fun _ _ y=>y)
 have hfr:(A.deeper (envOfC qual scope s.heap.objs.size f cdv)).frames=some (envOfC qual scope s.heap.objs.size f cdv::outer):=I2.ok.frames
 have hin:∀ env∈(envOfC qual scope s.heap.objs.size f cdv::outer),∀ b,env.frame=some b->b∈frs (envOfC qual scope s.heap.objs.size f cdv::outer):=fun env he b hb=>List.mem_filterMap.mpr ⟨env,he,hb⟩
 have noH:∀ b,s2.heap.get? b=none->H2 b=none:=fun b e=>by
  cases z:H2 b with
  | none=>rfl
  | some u=>obtain ⟨o,eo⟩:=(I2.hok b u z).there;rw [e] at eo;cases eo
 show wpAny _ _ (leaving _ _) _ _ _
 refine wpAny_leaves_madeW (base:=PySem.W.hideAll s2.heap (frs (envOfC qual scope s.heap.objs.size f cdv::outer))) (h:=s2.heap) hfr rfl (fun b o q=>PySem.W.of_hideAll _ q) (PySem.W.funFrames_hide I2.stack hin) hx' fun h'' t x1 x2 x3 x4=>⟨e,.ref C,H2,rfl,?_,hE⟩
 refine fly_out (s2:={ s2 with heap:=h' }) I2 rfl I2.bare (Un.kept hx'.keeps) (I2.hok.kept hx'.keeps) (noH e hx'.new) (fun b o eb hh hb=>?_) x1 fun b hb o eb=>x4 b o eb ?_
 ·have key:∀ o',s2.heap.get? b=some o'->(PySem.W.hideAll s2.heap (frs (envOfC qual scope s.heap.objs.size f cdv::outer))).get? b=some o:=fun o' e'=>by
   have e2:=hx'.keeps b o' e'
   have e3:h'.get? b=some o:=eb
   rw [e2] at e3;cases e3
   exact PySem.W.hideAll_get _ e' hb
  rcases hh with ⟨o',e'⟩ | ⟨u,hu⟩
  ·exact key o' e'
  ·obtain ⟨o',e'⟩:=(I2.hok b u hu).there
   exact key o' e'
 ·obtain ⟨_,o',e',d⟩:=I2.stack.mem (show b∈(envOfC qual scope s.heap.objs.size f cdv::outer).filterMap (·.frame) from List.mem_cons_of_mem _ hb)
  have e2:=hx'.keeps b o' e'
  have e3:h'.get? b=some o:=eb
  rw [e2] at e3;cases e3
  exact d
end
def XPe (X:Cx) (pins:List (Addr × Obj)) (σ:St) (R:XK) (e:Value) (s':Shared):Prop:=∃ a cls H1 s1 H',e=.ref a/\Inv X pins σ H1 s1/\Fly X.prog X.w X.stack H1 s1 H' a cls s'/\R cls none H'
abbrev TX:=St->Hp->VK->XK->Prop
def PEX (X:Cx) (e:Expr) (tx:TX):Prop:=∀ (pins:List (Addr × Obj)) (s:Shared) (σ:St) (H:Hp) (Q:VK) (R:XK),Inv X pins σ H s->tx σ H Q R->wpAny (model X.prog X.w) X.A (eval e X.env) (EP X pins σ Q) (XPe X pins σ R) s
def tCallX (sp:Sp) (dvs:List V) (t:TA):TX:=fun σ H Q R=>t σ H fun vs H1=>sp (vs++dvs) H1 Q R
section
variable {X:Cx} {k:Nat} {f C:Addr} {fd:FuncData} {ps:List Str} {sp:Sp} {dvs:List V} {ds:List Value} {x m:Str} {p pos apos:Pos} {e o:Expr} {es:List Expr} {ta:TE} {t:TA}
theorem run_fnX {pins:List (Addr × Obj)} {σ:St} {H:Hp} {s:Shared} {Q:VK} {R:XK} {us:List Value} {vs:List V} (F:FnOk X.prog X.w X.K X.mg X.base (CXO X.prog X.w) k f fd ps sp) (hr:Room k X.A) (hb:Binds X.K fd ps ds) (hd:Vals dvs ds)
  (I:Inv X pins σ H s) (r:Vals vs us) (h:sp (vs++dvs) H Q R):wpAny (model X.prog X.w) X.A (call (.ref f) us) (EP X pins σ Q) (XPe X pins σ R) s:=by
 have r2:Vals (vs++dvs) (us++ds):=r.append hd
 have hl:(us++ds).length=ps.length:=by rw [<- r2.length];exact F.len _ _ _ _ h
 refine wpAny_call (codeAny_mono (F.run X.A X.stack s H ⟨us,[]⟩ (us++ds) (vs++dvs) Q R hr I.env0 (hb s us I.kIn hl) r2 h) fun r s' hq=>?_)
 cases r with
 | error e =>
  obtain ⟨a,cls,H',rfl,fl,hR⟩:=hq
  exact ⟨a,cls,H,s,H',rfl,I,fl,hR⟩
 | ok fl =>
  cases fl with
  | ret u=>exact I.after hq
  | next=>exact False.elim hq
  | brk=>exact False.elim hq
  | cont=>exact False.elim hq
theorem pex_call (F:FnOk X.prog X.w X.K X.mg X.base (CXO X.prog X.w) k f fd ps sp) (hr:Room k X.A) (hg:Gl X x) (hm:X.mg x=some (.ref f)) (hk:PySem.W.keepIn X.K (.ref f)=true) (hb:Binds X.K fd ps ds) (hd:Vals dvs ds)
  (ha:∀ xe,PA (X.wish xe) (e::es) t) (hdb:(x == ("__debug__" : Str))=false:=by decide) (he:starEach (e::es) X.env=(false,eval e X.env)::starEach es X.env:=by rfl) (hpl:(backTo pos (starEach es X.env)).any (·.1)=false:=by rfl) :
  PEX X (.Call (.Name x p) (e::es) [] pos) (tCallX sp dvs t):=by
 intro pins s σ H Q R I h
 refine wpAny_Call_Name_kw (ld_glob I hg hm ?_ hdb)
 refine PySem.W.callWith_K (h₀:=X.base) I.ok.mod.kin hk (thn (ha (XPe X pins σ R) pos pins s σ H _ (I.wish _) h) fun us s1 ⟨vs,H1,I1,r,q⟩=>⟨I1.unwish.kIn,?_⟩) he hpl
 exact run_fnX F hr hb hd I1.unwish r q
theorem goes_ok {M:Model} {A:Around} {E:Value->Shared->Prop} {pins:List (Addr × Obj)} {σ:St} {H:Hp} {s:Shared} {i:Nat} {x:Str} {hpos:Pos} {Q:Unit->Shared->Prop} (I:Inv X pins σ H s) (hN:X.N.Nodup) (hi:X.N[i]?=some x) (hk:X.env.scope.names.lookup x=some .local)
  (h:∀ s',Inv X pins (σ.set i none) H s'->Q () s'):wpAny M A (do bindName X.env x .none;unbindBehindTheSuite X.env x hpos) Q E s:=by
 obtain ⟨m,hn,hl⟩:=id I.loc
 have hcls:(X.env.scope.kind == .class || (X.env.scope.kind == .module && X.env.locals != X.env.globals))=false:=by rw [I.ok.kind];rfl
 have hiσ:i < σ.length:=by rw [I.len];exact (List.getElem?_eq_some_iff.mp hi).1
 have cne:=I.cne
 refine wpAny_nameGoes_keeps hk hn hcls fun h' v hn' hs=>h _ ?_
 obtain ⟨oL,_,_,hoL,_⟩:=id hn
 have tracked:HOk X.prog X.w H h':=fun b ob e=>by
  refine (I.hok b ob e).stay (fun c w' hc q=>(hs.2 c ?_).trans q) (fun _ q=>q) fun _ _ q=>q
  rintro rfl
  have hfree:=I.free
  rcases hc with rfl | hc
  ·rw [hfree] at e;cases e
  ·rw [hfree] at hc;cases hc
 refine ⟨I.ok,I.os,I.bare,⟨fun b o e n hb hx=>?_,fun b o e n hb hx=>?_,I.base.free,fun b o e hx=>?_,I.base.tups,I.base.frzs,I.base.tbls⟩,⟨_,hn',fun j y v' e1 e2 e3=>?_⟩,fun y c e=>?_,I.free,I.freeC,fun p hp=>?_,tracked,by simpa using I.len⟩
 ·exact (hs.2 b (Nat.ne_of_lt (Nat.lt_of_lt_of_le (Heap.lt_size e) I.ok.above))).trans (I.base.keep b o e n hb hx)
 ·obtain ⟨sl,e1⟩:=I.base.slot b o e n hb hx
  exact ⟨sl,(hs.2 b (Nat.ne_of_lt (Nat.lt_of_lt_of_le (Heap.lt_size e) I.ok.above))).trans e1⟩
 ·obtain ⟨o',e1⟩:=I.base.there b o e hx
  exact ⟨o',(hs.2 b (Nat.ne_of_lt (Nat.lt_of_lt_of_le (Heap.lt_size e) I.ok.above))).trans e1⟩
 ·by_cases hj:j=i
  ·subst hj
   rw [List.getElem?_set_self hiσ] at e2
   cases e2
  ·rw [List.getElem?_set_ne (Ne.symm hj)] at e2
   obtain ⟨u',r',q⟩:=hl j y v' e1 e2 e3
   refine ⟨u',r',?_⟩
   rcases q with ⟨k,e⟩ | ⟨k,c,e,z⟩
   ·refine .inl ⟨k,?_⟩
    have:y≠x:=fun e=>hj (nodup_ix hN e1 (e ▸ hi))
    simp [this,e]
   ·exact .inr ⟨k,c,e,z.sameBut hs (cne y c e)⟩
 ·obtain ⟨w',z⟩:=I.cell y c e
  exact ⟨w',z.sameBut hs (cne y c e)⟩
 ·obtain ⟨e,n,ne,nf,d⟩:=I.pin p hp
  exact ⟨(hs.2 p.1 ne).trans e,n,ne,nf,d⟩
end
def excO (a:Addr) (cls:Value):HO:=.ext fun h=>∃ o vs,h.get? a=some o/\o.cls=cls/\o.data=.fields vs
section
variable {X:Cx} {pins:List (Addr × Obj)} {σ:St} {H1 H2:Hp} {s1 s2:Shared} {a:Addr} {cls a0:Value} {B h':Heap}
abbrev Cx.catch (X:Cx) (a:Addr):Cx:={ X with A:=X.A.mark (some (.ref a)),calm:=false }
theorem Cx.Ok.catch {X:Cx} (ok:X.Ok) (a:Addr):(X.catch a).Ok :=
 ⟨ok.mod,ok.kind,ok.glob,ok.blt,ok.above,ok.inj,ok.has,ok.cab,fun z=>Bool.noConfusion (show false=true from z),ok.frames,ok.stk,ok.exf,ok.bs,ok.bsz,ok.noex,ok.exfs,ok.funs,ok.frf⟩
theorem Inv.catch {H:Hp} {s:Shared} (I:Inv X pins σ H s) (a:Addr):Inv (X.catch a) pins σ H s:=⟨I.ok.catch a,I.os,I.bare,I.base,I.loc,I.cell,I.free,I.freeC,I.pin,I.hok,I.len⟩
theorem Inv.uncatch {H:Hp} {s:Shared} (ok:X.Ok) (I:Inv ((X.catch a).nox) pins σ H s):Inv X pins σ H s:=⟨ok,I.os,I.bare,I.base,I.loc,I.cell,I.free,I.freeC,I.pin,I.hok,I.len⟩
theorem fly_in (I:Inv X pins σ H1 s1) (fl:Fly X.prog X.w X.stack H1 s1 H2 a cls s2) (hB:∀ b o,s2.heap.get? b=some o->((∃ q,s1.heap.get? b=some q)\/∃ u,H2 b=some u)->b ∉ frs X.stack->B.get? b=some o)
  (hfl:Heap.FlyingW B X.stack a cls a0 h') (hsl:∀ b∈frs X.stack,∀ o,s2.heap.get? b=some o->∃ sl,h'.get? b=some { o with slots:=sl }) :
  Inv X pins σ H2 { s2 with heap:=h' }/\Inv X pins σ (upd H2 a (excO a cls)) { s2 with heap:=h' }:=by
 have un:=fl.un
 have hst:∀ b∈frs X.stack,H2 b=none:=fun b hb=>by
  obtain ⟨_,o,e,_⟩:=I.stack.mem (show b∈X.stack.filterMap (·.frame) from hb)
  exact un.free b o e (I.stkFree b hb) (by simp)
 have inB:∀ b o,s1.heap.get? b=some o->b ∉ frs X.stack->∀ o2,s2.heap.get? b=some o2->h'.get? b=some o2:=fun b o e hb o2 e2=>hfl.1 b o2 (hB b o2 e2 (.inl ⟨o,e⟩) hb)
 have trB:∀ b u,H2 b=some u->∀ o2,s2.heap.get? b=some o2->h'.get? b=some o2:=fun b u e o2 e2=>hfl.1 b o2 (hB b o2 e2 (.inr ⟨u,e⟩) fun z=>by rw [hst b z] at e;cases e)
 have un':Un (frs X.stack) [] H1 H2 s1.heap h':=by
  refine ⟨fun b o e n hb hx=>inB b o e hb o (un.keep b o e n hb hx),fun b o e n hb hx=>?_,un.free,fun b o e hx=>?_,un.tups,un.frzs,un.tbls⟩
  ·obtain ⟨sl2,e2⟩:=un.any e n hx
   obtain ⟨sl3,e3⟩:=hsl b hb _ e2
   exact ⟨sl3,e3⟩
  ·obtain ⟨o2,e2⟩:=un.there b o e hx
   by_cases hb:b∈frs X.stack
   ·obtain ⟨sl,e3⟩:=hsl b hb _ e2
    exact ⟨_,e3⟩
   ·exact ⟨o2,inB b o e hb o2 e2⟩
 have hok':HOk X.prog X.w H2 h':=fun b u e=>by
  refine (fl.hok b u e).stay (fun c v hc q=>?_) (fun _ q=>q) fun _ _ q=>q
  rcases hc with z | z
  ·subst z;exact trB c u e v q
  ·exact trB c _ z v q
 obtain ⟨oe,vs,he,hc,hd,_⟩:=hfl.first
 have anew:s1.heap.get? a=none:=by
  cases q:s1.heap.get? a with
  | none=>rfl
  | some o =>
   exfalso
   by_cases hb:a∈frs X.stack
   ·obtain ⟨_,o',e',d⟩:=hfl.2.2.1.mem (show a∈X.stack.filterMap (·.frame) from hb)
    rw [he] at e';cases e'
    exact d vs hd
   ·obtain ⟨o2,e2⟩:=un.there a o q (by simp)
    have:=hB a o2 e2 (.inl ⟨o,q⟩) hb
    rw [hfl.2.1] at this;cases this
 have aH1:H1 a=none:=by
  cases z:H1 a with
  | none=>rfl
  | some u=>obtain ⟨o,eo⟩:=(I.hok a u z).there;rw [anew] at eo;cases eo
 refine ⟨I.call' (ch:=[]) (s':={ s2 with heap:=h' }) fl.os un' hok' fl.bare (fun b z=>nomatch z),I.call' (ch:=[]) (s':={ s2 with heap:=h' }) fl.os ?_ ?_ fl.bare (fun b z=>nomatch z)⟩
 ·have na:∀ b o,s1.heap.get? b=some o->b≠a:=fun b o e z=>by rw [z,anew] at e;cases e
  refine ⟨un'.keep,un'.slot,fun b o e n hx=>by rw [upd_ne (na b o e)];exact un'.free b o e n hx,un'.there,fun b xs e=>?_,fun b o u e=>?_,fun b ps e=>?_⟩
  ·rw [upd_ne (ne_of_none e aH1)];exact un.tups b xs e
  ·rw [upd_ne (ne_of_none e aH1)];exact un.frzs b o u e
  ·rw [upd_ne (ne_of_none e aH1)];exact un.tbls b ps e
 ·intro b u e
  by_cases hb:b=a
  ·subst hb
   rw [upd_same] at e;cases e
   refine ⟨⟨oe,vs,he,hc,hd⟩,⟨oe,he⟩,fun g1 g2 ⟨o,vs',q1,q2,q3⟩ k=>⟨o,vs',k o q1,q2,q3⟩⟩
  ·rw [upd_ne hb] at e
   refine (hok' b u e).stay (fun c v _ q=>q) (fun c q=>by rw [upd_ne (ne_of_none q fl.an)];exact q) fun c xs q=>by rw [upd_ne (ne_of_none q fl.an)];exact q
end
def tTry (K:PySem.W.Frag) (c:Value) (i:Nat) (tx:TX) (ts:TS):TS:=fun D σ H=>tx σ H (fun _ H1=>D.nx σ H1) fun cls _ H1=>PySem.W.exmOne K cls c=some true/\∀ a,H1 a=none ->
 ts { nx:=fun σ2 H2=>D.nx (σ2.set i none) H2,rt:=D.rt,bk:=fun σ2 H2=>D.bk (σ2.set i none) H2,ct:=fun σ2 H2=>D.ct (σ2.set i none) H2 } (σ.set i (some (.ref a))) (upd H1 a (excO a cls))
section
variable {X:Cx} {e:Expr} {tx:TX} {ts:TS} {x n:Str} {c:Value} {i:Nat} {b₀:Stmt} {suite:List Stmt} {pos pos' np hpos:Pos}
theorem ps_try (hst:X.stack=X.env::X.outer) (hf:X.env.frame=some X.env.locals) (he:PEX X e tx) (hx:Gl X x) (hm:X.mg x=some c) (hN:X.N.Nodup) (hi:X.N[i]?=some n) (hn:X.env.scope.names.lookup n=some .local)
  (hs:∀ a,PSs ((X.catch a).nox) (b₀::suite) ts) (hd:(x == ("__debug__" : Str))=false:=by decide) (hsw:swapsWith e none pos'.line X.env=pure false:=by rfl) :
  PS X (.Try [.Expr e pos'] [.ExceptHandler (some (.Name x np)) (some n) (b₀::suite) hpos] [] [] pos) (tTry X.K c i tx ts):=by
 intro pins s σ H D I h
 refine wpAny_Try_except (wpAny_execs_cons (wpAny_Expr_any (wpAny_mono (he pins s σ H _ _ I h) (fun v s1 ⟨y,H1,I1,r1,q1⟩=>wpAny_execs_nil (wpAny_execs_nil ⟨σ,H1,I1,q1⟩)) fun ev s2 hx2=>?_) I.quiet hsw))
 obtain ⟨a,cls,H1,s1,H2,rfl,I1,fl,hex,hR⟩:=hx2
 obtain ⟨B,a0,hfl,hB⟩:=fl.fly
 have hfr:X.A.frames=some (X.env::X.outer):=by rw [I.ok.frames,hst]
 have hfl0:Heap.FlyingW B (X.env::X.outer) a cls a0 s2.heap:=hst ▸ hfl
 have fs0:∀ {g:Heap},s2.heap.UpToSlots g->∀ b∈frs X.stack,∀ o,s2.heap.get? b=some o->∃ sl,g.get? b=some { o with slots:=sl }:=fun {g} u b hb o e=>u b o e (by
  obtain ⟨_,o',e',d⟩:=hfl.2.2.1.mem (show b∈X.stack.filterMap (·.frame) from hb)
  rw [e] at e';cases e'
  exact d)
 refine wpAny_looks_onW hfr hf hfl0 fun h4 held4 u4=>?_
 refine wpAny_landsW held4 fun h5 fly5 u5=>?_
 have fly5':Heap.FlyingW B X.stack a cls a0 h5:=hst ▸ fly5
 have I5:=(fly_in I1 fl hB fly5' (fs0 (u4.trans u5))).1
 have J5:=I5.catch a
 refine wpAny_handleBy_cons (codeAny_handlers_test ?_) (by intro q;cases q)
 refine ld_glob (X:=X.catch a) J5 hx hm ?_ hd
 have LT:PySem.W.Looks (model X.prog X.w) h5 (typeOf (.ref a)) cls:=by
  obtain ⟨ob,hob,hc⟩:=fly5.there
  subst hc
  exact (PySem.W.Looks.ld hob).andThen .now
 refine PySem.W.Looks.here (s:={ s2 with heap:=h5 }) (PySem.W.exm_one I5.kIn LT hex) ?_
 show codeAny _ _ _ _ _
 refine codeAny_handlers_suite_as ?_
 refine lands_againW fly5' fun h6 fly6 u6=>?_
 have I6:=(fly_in I1 fl hB fly6 (fs0 ((u4.trans u5).trans u6))).2
 have J6:=I6.catch a
 refine store_ok (X:=X.catch a) J6 hN hi (.inl hn) (v:=.ref a) rfl (fun s7 J7=>?_) (.inr hn)
 have J7':Inv ((X.catch a).nox) pins (σ.set i (some (.ref a))) (upd H2 a (excO a cls)) s7:=J7.wish _
 refine wpAny_mono (hs a pins s7 _ _ _ J7' (hR a fl.an)) (fun f s8 q8=>?_) fun _ _ z=>False.elim z
 cases f with
 | next =>
  obtain ⟨σ8,H8,J8,q8⟩:=q8
  exact goes_ok (Inv.uncatch I.ok J8) hN hi hn fun s9 I9=>⟨_,H8,I9,q8⟩
 | brk =>
  obtain ⟨σ8,H8,J8,q8⟩:=q8
  exact goes_ok (Inv.uncatch I.ok J8) hN hi hn fun s9 I9=>⟨_,H8,I9,q8⟩
 | cont =>
  obtain ⟨σ8,H8,J8,q8⟩:=q8
  exact goes_ok (Inv.uncatch I.ok J8) hN hi hn fun s9 I9=>⟨_,H8,I9,q8⟩
 | ret u =>
  obtain ⟨v,σ8,H8,J8,r8,q8⟩:=q8
  exact goes_ok (Inv.uncatch I.ok J8) hN hi hn fun s9 I9=>⟨v,_,H8,I9,r8,q8⟩
end
section
variable {prog:Program} {w:World} {A:Around} {E:Value->Shared->Prop} {h:Heap} {g:Array GenState} {d:Drawn} {t:Nat} {os:OsState} {K:PySem.W.Frag} {a C:Addr} {o:Obj} {vs:Array Value}
theorem owner_class:(".".intercalate ("object.__class__".cutAt '.').dropLast)="object" := by decide +kernel
theorem exc_class_get {R:Result->Shared->Prop} (X:K.In h) (hx:h.get? a=some o) (hc:o.cls=.ref C) (m1:PySem.W.mroIn K C (.type "object")=some true) (hq:R (.ok (.ret (.ref C))) ⟨h,g,d,t,os⟩) :
  codeAny (model prog w) A (.call (.builtin "getset_descriptor.__get__") ⟨[.builtin "object.__class__",.ref a,.ref C],[]⟩) R ⟨h,g,d,t,os⟩:=by
 have hT5:(⟨h,g,d,t,os⟩:Shared).TypeIs (.builtin "object.__class__") "getset_descriptor" := F.typeOf_object_class
 have L1:=PySem.W.looks_mroIn (M:=model prog w) X m1
 rw [<- owner_class] at L1
 refine codeAny_call_builtin F.slot_gs_get.plain F.entry_gs_get (F.slot_gs_get.check _ _ _ _ _ _ _ _ hT5 (F.args_gs_get _ _ _) ?_)
 repeat (any_goals (first | assumption | (with_reducible refine wpAny_loadPart_at hx ?_;rw [hc]) | with_reducible refine L1.at ?_ | wp_step))
 refine ⟨Code.quiet_builtin _ (by decide +kernel),codeAny_builtin F.entry_object_class ?_⟩
 repeat (any_goals (first | assumption | (with_reducible refine wpAny_loadPart_at hx ?_;rw [hc]) | wp_step))
theorem exc_class_entry {tk:Tok} {Q:PySem.Fin->Shared->Prop} (X:K.In h) (hx:h.get? a=some o) (hc:o.cls=.ref C) (m1:PySem.W.mroIn K C (.type "object")=some true) (g3:PySem.W.findIn K (.ref C) "__class__" = some (some (.builtin "object.__class__")))
  (hq:Q (.done (.ret (.ref C))) ⟨h,g,d,t,os⟩):wpAny (model prog w) A (Builtin.«object.__getattribute__» ⟨[.ref a,.str "__class__" tk],[]⟩) Q E ⟨h,g,d,t,os⟩:=by
 have hT5:(⟨h,g,d,t,os⟩:Shared).TypeIs (.builtin "object.__class__") "getset_descriptor" := F.typeOf_object_class
 have L3:=PySem.W.looks_findIn (M:=model prog w) X g3
 have f5:=F.typeOf_object_class
 have f6:=F.slot_gs_get.lookup
 have f7:=F.slot_gs_set.lookup
 repeat (any_goals (first | assumption | (with_reducible refine wpAny_loadPart_at hx ?_;rw [hc]) | with_reducible refine L3.at ?_ | wp_step))
 refine exc_class_get X hx hc m1 ?_
 repeat (any_goals (first | assumption | wp_step))
theorem exc_check {M:Model} {nameV:Value} {Q:Unit->Shared->Prop} (X:K.In h) (hx:h.get? a=some o) (hc:o.cls=.ref C) (m2:PySem.W.mroIn K C (.type "BaseException")=some true) (hq:Q () ⟨h,g,d,t,os⟩) :
  wpAny M A (checkBuiltinCall "BaseException.__getattribute__" ⟨[.ref a,nameV],[]⟩) Q E ⟨h,g,d,t,os⟩:=by
 have hk:builtinKind "BaseException.__getattribute__" = some .slot:=by decide +kernel
 have hsplit:splitId "BaseException.__getattribute__" = some ("BaseException","__getattribute__"):=by decide +kernel
 have L2:=PySem.W.looks_mroIn (M:=M) X m2
 have ha:=F.args_bexc_ga (.ref a) nameV
 simp only [checkBuiltinCall,hk,hsplit]
 refine wpAny_bind ?_
 ·unfold isInstance
  repeat (first | (with_reducible refine wpAny_loadPart_at hx ?_;rw [hc]) | with_reducible refine L2.at ?_ | wp_step)
  exact hq
theorem exc_class_call {tk:Tok} {R:Result->Shared->Prop} (X:K.In h) (hx:h.get? a=some o) (hc:o.cls=.ref C) (m1:PySem.W.mroIn K C (.type "object")=some true) (m2:PySem.W.mroIn K C (.type "BaseException")=some true)
  (g3:W.findIn K (.ref C) "__class__" = some (some (.builtin "object.__class__"))) (hq:R (.ok (.ret (.ref C))) ⟨h,g,d,t,os⟩) :
  codeAny (model prog w) A (.call (.builtin "BaseException.__getattribute__") ⟨[.ref a,.str "__class__" tk],[]⟩) R ⟨h,g,d,t,os⟩ :=
 codeAny_call_builtin F.attr_ValueError.ga.plain F.entry_bexc_ga (exc_check X hx hc m2 (exc_class_entry X hx hc m1 g3 hq))
theorem exc_class_by {tk:Tok} {Q:Value->Shared->Prop} (X:K.In h) (hx:h.get? a=some o) (hc:o.cls=.ref C) (m1:PySem.W.mroIn K C (.type "object")=some true) (m2:PySem.W.mroIn K C (.type "BaseException")=some true)
  (g1:W.findIn K (.ref C) "__getattribute__" = some (some (.builtin "BaseException.__getattribute__"))) (g2:W.findIn K (.ref C) "__getattr__" = some none) (g3:W.findIn K (.ref C) "__class__" = some (some (.builtin "object.__class__")))
  (hq:Q (.ref C) ⟨h,g,d,t,os⟩):wpAny (model prog w) A (getAttrBy (.ref a) (.str "__class__" tk) false) Q E ⟨h,g,d,t,os⟩:=by
 have f3:=F.attr_ValueError.ga.bind (.ref a)
 have L1:=PySem.W.looks_findIn (M:=model prog w) X g1
 have L2:=PySem.W.looks_findIn (M:=model prog w) X g2
 have hx2:(Value.builtin "BaseException.__getattribute__" == Value.builtin "object.__getattribute__")=false:=by decide +kernel
 have hx1:(onTheHeap (Value.ref C) && Value.builtin "BaseException.__getattribute__" == Value.builtin "object.__getattribute__")=false:=by rw [hx2];rfl
 repeat (any_goals (first | assumption | (with_reducible refine wpAny_loadPart_at hx ?_;rw [hc]) | with_reducible refine L1.at ?_ | with_reducible refine L2.at ?_ | wp_step))
 refine exc_class_call X hx hc m1 m2 g3 ?_
 repeat (any_goals (first | assumption | wp_step))
end
structure ExcCl (K:PySem.W.Frag) (C:Addr):Prop where
 cl:(PySem.W.clsIn K C).isSome=true
 m1:PySem.W.mroIn K C (.type "object")=some true
 m2:PySem.W.mroIn K C (.type "BaseException")=some true
 g1:PySem.W.findIn K (.ref C) "__getattribute__" = some (some (.builtin "BaseException.__getattribute__"))
 g2:PySem.W.findIn K (.ref C) "__getattr__" = some none
 g3:PySem.W.findIn K (.ref C) "__class__" = some (some (.builtin "object.__class__"))
theorem kitx_exc {K:PySem.W.Frag} {a C:Addr} (x:ExcCl K C):PySem.W.KitX K (.ref a) (.ref C) (fun h=>∃ o vs,h.get? a=some o/\o.cls=.ref C/\o.data=.fields vs) where
 ty:=fun M h _ ⟨o,vs,ho,hc,_⟩=>by
  have L:=(PySem.W.Looks.ld (M:=M) (part:=none) ho)
  have e:PySem.W.Looks M h (typeOf (.ref a)) o.cls:=(PySem.W.Looks.ld ho).andThen .now
  rw [hc] at e
  exact e
 it:=fun _ _ X _=>by
  obtain ⟨cdD,hcD⟩:=Option.isSome_iff_exists.mp x.cl
  unfold PySem.W.clsIn at hcD
  split at hcD
  ·rename_i c' d' cd' sl' ho
   intro A' Q' E' s' k q
   unfold isType loadHead
   exact wpAny_bind (wpAny_loadPart (k _ _ (X _ _ ho)) (wpAny_pure q))
  ·cases hcD
 ne:=fun h tp dd its n sl X htp=>by
  obtain ⟨cdD,hcD⟩:=Option.isSome_iff_exists.mp x.cl
  refine Bool.eq_false_iff.mpr fun q=>?_
  have e:C=tp:=Value.ref.inj (beq_iff_eq.mp q)
  subst e
  unfold PySem.W.clsIn at hcD
  split at hcD
  ·rename_i c' d' cd' sl' ho
   have z:=(X _ _ ho).symm.trans htp
   cases z
  ·cases hcD
 ca:=fun {prog w A E Q s} X ⟨o,vs,ho,hc,hd⟩ k=>by
  obtain ⟨h,g,d,t,os⟩:=s
  unfold getAttr? getAttrBy?
  refine wpAny_bind (wpAny_mkText (wpAny_bind (wpAny_attempt ?_)))
  exact exc_class_by X ho hc x.m1 x.m2 x.g1 x.g2 x.g3 (wpAny_pure k)
section
variable {X:Cx}
theorem call_isinstE:CallR X (.builtin "isinstance") (fun xs H Q=>∃ (a C:Addr) (c:V) (cv:Value) (b:Bool),xs=[.ref a,c]/\(∀ u,RelV c u->u=cv)/\H a=some (excO a (.ref C))/\ExcCl X.K C/\PySem.W.kitOne X.K (.ref C) cv=some b/\Q (.bl b) H):=by
 intro pins s σ H xs us Q I r h
 obtain ⟨a,C,c,cv,b,rfl,hc,hH,x,e,q⟩:=h
 obtain ⟨u,v,rfl,ru,rv⟩:=vals2 r
 cases ru
 cases hc v rv
 obtain ⟨p,_,_⟩:=I.hok a _ hH
 exact PySem.W.kia_one (kitx_exc x) I.kIn p e (fun z=>nomatch z) fun tk=>⟨.bl b,H,I.tok _,rfl,q⟩
theorem call_isinstT:CallR X (.builtin "isinstance") (fun xs H Q=>∃ (a C tp:Addr) (cs:List V) (cvs:List Value) (b:Bool),xs=[.ref a,.ref tp]/\H tp=some (.tup cs)/\(∀ us,Vals cs us->us=cvs)/\H a=some (excO a (.ref C))/\ExcCl X.K C/\PySem.W.kitAny X.K (.ref C) cvs=some b/\Q (.bl b) H):=by
 intro pins s σ H xs us Q I r h
 obtain ⟨a,C,tp,cs,cvs,b,rfl,htp,hcs,hH,x,e,q⟩:=h
 obtain ⟨u,v,rfl,ru,rv⟩:=vals2 r
 cases ru
 cases rv
 obtain ⟨p,_,_⟩:=I.hok a _ hH
 obtain ⟨z,its,rt,⟨o,ho,hc,n,hd⟩⟩:=I.hok tp _ htp
 cases hcs its rt
 obtain ⟨c0,d0,dt0,sl0⟩:=o
 cases hc
 cases hd
 exact PySem.W.kia_tup (kitx_exc x) I.kIn p ho e (fun z=>nomatch z) fun tk=>⟨.bl b,H,I.tok _,rfl,q⟩
end
def addS (σ:List Str) (z:Str):List Str:=if z∈σ then σ else z::σ
def dist (zs:List Str):List Str:=zs.foldl addS []
theorem mem_addS {σ:List Str} {z k:Str}:k∈addS σ z ↔ k∈σ\/k=z:=by
 unfold addS
 split
 ·exact ⟨.inl,fun h=>h.elim id fun e=>by rw [e];assumption⟩
 ·rw [List.mem_cons];exact or_comm
theorem len_addS (σ:List Str) (z:Str):(addS σ z).length=if z∈σ then σ.length else σ.length+1:=by
 unfold addS;split<;>simp
theorem dist_snoc (zs:List Str) (z:Str):dist (zs++[z])=addS (dist zs) z:=by simp [dist,List.foldl_append]
theorem fold_le:∀ (zs σ:List Str),(zs.foldl addS σ).length<=σ.length+zs.length
 | [],σ=>by simp
 | z::zs,σ=>by
  have h:=fold_le zs (addS σ z)
  rw [len_addS] at h
  simp only [List.foldl_cons,List.length_cons]
  split at h<;>omega
theorem dist_le (zs:List Str):(dist zs).length<=zs.length:=by
 have h:=fold_le zs []
 rw [List.length_nil,Nat.zero_add] at h
 exact h
theorem fold_nd:∀ (zs σ:List Str),zs.Nodup->(∀ z∈zs,z ∉ σ)->(zs.foldl addS σ).length=σ.length+zs.length
 | [],σ,_,_=>by simp
 | z::zs,σ,nd,h=>by
  rw [List.nodup_cons] at nd
  simp only [List.foldl_cons,List.length_cons]
  rw [fold_nd zs (addS σ z) nd.2 fun y hy q=>?_,len_addS,if_neg (h z List.mem_cons_self)]
  ·omega
  ·rcases mem_addS.mp q with q | q
   ·exact h y (List.mem_cons_of_mem _ hy) q
   ·exact nd.1 (q ▸ hy)
theorem dist_nd {zs:List Str} (nd:zs.Nodup):(dist zs).length=zs.length:=by
 have h:=fold_nd zs [] nd fun _ _ h=>nomatch h
 rw [List.length_nil,Nat.zero_add] at h
 exact h
theorem strs_at:∀ {its:List Value} {zs:List Str} {i:Nat} {v:Value},StrsAre its zs->its[i]?=some v->∃ z t,zs[i]?=some z/\v=.str z t:=by
 intro its zs i v h
 induction h generalizing i with
 | nil=>intro e;simp at e
 | cons z t _ ih =>
  intro e
  cases i with
  | zero=>simp at e;exact ⟨z,t,rfl,e.symm⟩
  | succ i=>exact ih (by simpa using e)
theorem strs_len:∀ {its:List Value} {zs:List Str},StrsAre its zs->its.length=zs.length:=by
 intro its zs h
 induction h with
 | nil=>rfl
 | cons z t _ ih=>simp [ih]
theorem of_strs:∀ {its:List Value} {zs:List Str},StrsAre its zs->Vals (zs.map V.str) its:=by
 intro its zs h
 induction h with
 | nil=>exact .nil
 | cons z t _ ih=>exact .cons ⟨t,rfl⟩ ih
section
variable {prog:Program} {w:World} {A:Around} {I S:Addr} {fp wr:List Addr} {G:Array GenState->Array GenState->Prop} {P:Nat->Value->Prop} {St:Nat->Shared->Prop} {zs:List Str} {R:Result->Shared->Prop}
abbrev TxtSet (prog:Program) (w:World) (h:Heap) (S:Addr) (zs:List Str):Prop:=h.SetOf (strKind prog w) S (fun k=>decide (k∈dist zs)) (dist zs).length
theorem TxtSet.keep {h h':Heap} (x:TxtSet prog w h S zs) (k:∀ o,h.get? S=some o->h'.get? S=some o):TxtSet prog w h' S zs:=by
 obtain ⟨o,es,ep,t,ho,r⟩:=x
 exact ⟨o,es,ep,t,k o ho,r⟩
theorem TxtSet.more {h:Heap} {z:Str} (x:h.SetOf (strKind prog w) S (fun k=>decide (k∈dist zs) || decide (k=z)) (if decide (z∈dist zs)=true then (dist zs).length else (dist zs).length+1)):TxtSet prog w h S (zs++[z]):=by
 have e1:(fun k=>decide (k∈dist (zs++[z])))=fun k=>decide (k∈dist zs) || decide (k=z):=by
  funext k;rw [dist_snoc,Bool.eq_iff_iff];simp [mem_addS]
 have e2:(dist (zs++[z])).length=if decide (z∈dist zs)=true then (dist zs).length else (dist zs).length+1:=by
  rw [dist_snoc,len_addS];simp
 unfold TxtSet
 rw [e1,e2];exact x
theorem texts_in (W:WalksS prog w A.in1 I fp wr G zs.length P St) (off:S ∉ fp) (hz:∀ i v,P i v->∃ z t,zs[i]?=some z/\v=.str z t) (small:zs.length+1 < scanBound) :
  ∀ (left i:Nat) (s:Shared),i+left=zs.length->St i s->TxtSet prog w s.heap S (zs.take i) ->
   (∀ s',Moved (S::wr) G s s'->TxtSet prog w s'.heap S zs->R (.ok (.ret .none)) s')->codeAny (model prog w) A (.builtin "set.update.loop" ⟨[.ref S,.ref I],[]⟩) R s
 | 0,i,s,hi,st,x,k=>by
  have e:zs.take i=zs:=List.take_of_length_le (by omega)
  rw [show i=zs.length by omega] at st
  refine codeAny_builtin F.entry_set_update_loop ?_
  rw [Around.under_plainId F.plain_set_update_loop _]
  apply wpAny_bind
  refine W.done s _ _ st fun s' m=>?_
  exact wpAny_pure (k s' (m.mono fun b hb=>List.mem_cons_of_mem _ hb) (by rw [e] at x;exact x.keep fun o ho=>m.heap S o (fun hs=>off (W.sub _ hs)) ho))
 | left+1,i,s,hi,st,x,k=>by
  refine codeAny_builtin F.entry_set_update_loop ?_
  rw [Around.under_plainId F.plain_set_update_loop _]
  apply wpAny_bind
  refine W.item i s _ _ (by omega) st fun v s1 p st1 m=>?_
  obtain ⟨z,t,ez,rfl⟩:=hz i v p
  have x1:=x.keep fun o ho=>m.heap S o (fun hs=>off (W.sub _ hs)) ho
  have et:zs.take (i+1)=zs.take i++[z]:=by rw [List.take_add_one,ez];rfl
  have yes:(strKind prog w).is z (.str z t)=true:=by show Value.isStrOf z (.str z t)=true;simp [Value.isStrOf]
  show wpAny _ A.in1 (holding [Value.str z t] (setAdd S (.str z t)) >>= _) _ _ s1
  apply wpAny_bind;apply wpAny_holding
  show wpAny _ A.in1 (holding _ _) _ _ _
  apply wpAny_holding;apply wpAny_bind
  refine (strKind prog w).pyHash yes ?_
  have few:=dist_le (zs.take i)
  rw [List.length_take] at few
  refine wpAny_setAddHashed_of (knd:=strKind prog w) (s:={ s1 with toks:=s1.toks+1 }) yes rfl x1 (by omega) fun h2 sb x2=>?_
  refine wpAny_pure ⟨plainId_quiet F.plain_set_update_loop _,texts_in W off hz small left (i+1) _ (by omega) ?_ (by rw [et];exact TxtSet.more x2) fun s3 m3 x3=>?_⟩
  ·exact W.frame _ s1 _ _ st1 (Nat.le_succ _) fun b hb o e=>(sb.2 b fun z'=>off (z' ▸ hb)).trans e
  ·refine k s3 (Moved.trans W.gtrans ((m.mono fun b hb=>List.mem_cons_of_mem _ hb).then_heap (Nat.le_succ _) fun b o hb e=>?_) m3) x3
   exact (sb.2 b fun z'=>hb (by rw [z'];exact List.mem_cons_self)).trans e
end
section
variable {prog:Program} {w:World} {A:Around} {E:Value->Shared->Prop} {s:Shared}
theorem made_by {T newId initId:String} {args:List Value} {Q:Value->Shared->Prop} (ft:TypeCalled T newId initId) (hc:checkTypeCall T ⟨args,[]⟩=pure ())
  (h:codeAny (model prog w) A.in1 (.call (.builtin newId) ⟨.type T::args,[]⟩) (wants (fun x t=>t.TypeIs x T/\codeAny (model prog w) A.in1 (.call (.builtin initId) ⟨x::args,[]⟩) (wants (fun r t'=>r=.none/\Q x t') E) t) E) s) :
  wpAny (model prog w) A (call (.type T) args) Q E s:=by
 have q1:=ft.made
 have q2:=ft.sub
 have q3:=ft.notType
 have q4:=ft.canCreate
 have q5:=ft.init.lookup
 obtain ⟨_,_,q6⟩:=ft.mro
 apply wpAny_call;apply codeAny_of_tree
 show wpAny _ _ (callAny (.type T) _) _ _ _
 apply wpAny_pure
 refine ⟨Code.quiet_builtin _ (by decide +kernel),codeAny_builtin PySem.F.entry_type_call ?_⟩
 rw [Around.under_plain (weight_type_call_type T args []) rfl]
 repeat (any_goals (first | wp_step | assumption))
 apply codeAny_mono h
 rintro (e | f) t k
 ·exact k
 cases f<;>first | exact k.elim | skip
 rename_i x
 have q7:=ft.init.bind x
 obtain ⟨ty,k⟩:=k
 repeat (any_goals (first | wp_step | assumption))
 apply codeAny_mono k
 rintro (e | f) t' k'
 ·exact k'
 cases f<;>first | exact k'.elim | skip
 obtain ⟨z,k'⟩:=k'
 cases z
 repeat (any_goals (first | wp_step | assumption))
theorem set_texts {l:Addr} {its:List Value} {zs:List Str} {Q:Value->Shared->Prop} (hh:A.handled=none) (hl:s.heap.IsList l its.toArray) (hz:StrsAre its zs) (small:zs.length+1 < scanBound)
  (h:∀ (h':Heap) (tk:Nat),TxtSet prog w h' s.heap.objs.size zs->(∀ b o,s.heap.get? b=some o->h'.get? b=some o)->Q (.ref s.heap.objs.size) { s with heap:=h',toks:=tk }) :
  wpAny (model prog w) A (call (.type "set") [.ref l]) Q E s:=by
 refine made_by PySem.F.called_set (PySem.F.typeCall_set_1 _) (code_set_new_1 (.ref l) fun led=>?_)
 generalize hh1:s.heap.push { cls:=.type "set",dict:=none,data:=.set #[] 0 (.fresh 0 0 led) }=h1
 have kp:∀ b o,s.heap.get? b=some o->h1.get? b=some o:=fun b o e=>by rw [<- hh1];exact Heap.get?_push_of_some _ e
 have sz:h1.objs.size=s.heap.objs.size+1:=by rw [<- hh1];exact Heap.size_push ..
 have new:h1.get? s.heap.objs.size=some { cls:=.type "set",dict:=none,data:=.set #[] 0 (.fresh 0 0 led) }:=by rw [<- hh1];exact Heap.get?_push_size _ rfl
 have ty:({ s with heap:=h1 }:Shared).TypeIs (.ref s.heap.objs.size) "set" := ⟨_,new,rfl⟩
 refine ⟨ty,codeAny_call_builtin PySem.F.called_set.init.plain PySem.F.entry_set_init (check_set_init_1 ty ?_)⟩
 have el:its.length=zs.length:=strs_len hz
 obtain ⟨⟨c,d,dt,sl⟩,ho,rfl,n,rfl⟩:=hl
 have ho1:=kp _ _ ho
 have lt:@LT.lt Nat _ l s.heap.objs.size:=Heap.lt_size ho
 have il:h1.IsList l its.toArray:=⟨_,ho1,rfl,n,rfl⟩
 have n1:=PySem.F.sub_list_set
 have n2:=PySem.F.sub_list_frozenset
 have n3:(Value.type "list" == Value.type "dict")=false:=by decide
 unfold Builtin.«set.__init__» noKeywords Builtin.Frozenset.updateFrom
 generalize pi:pyIter=it
 wp_walk
 subst pi
 apply wpAny_pyIter_list il
 apply wpAny_bind;apply wpAny_runValue
 have W:=(Walks.list (prog:=prog) (w:=w) (A:=A.in1.in1.in1) (by simpa using hh) h1.objs.size l (by rw [sz];exact Nat.ne_of_lt (Nat.lt_succ_of_lt lt)) its.toArray).toS
 have e0:its.toArray.size=zs.length:=by rw [List.size_toArray];exact el
 rw [e0] at W
 refine texts_in (zs:=zs) W ?_ (fun i v p=>?_) small zs.length 0 _ (Nat.zero_add _) ⟨⟨_,Heap.get?_push_size _ rfl,rfl,rfl⟩,il.push _⟩ ?_ fun t m x=>?_
 ·rw [sz]
  intro q
  rcases List.mem_cons.mp q with q | q
  ·exact absurd q (Nat.ne_of_lt (Nat.lt_succ_self _))
  ·exact absurd (List.mem_singleton.mp q) (Nat.ne_of_gt lt)
 ·have p':its[i]?=some v:=by simpa using p
  exact strs_at hz p'
 ·exact (setObjOf_fresh (knd:=strKind prog w) led).setOf (Heap.get?_push_of_some _ new) (by decide)
 ·obtain ⟨h2,g2,d2,t2,o2⟩:=t
  cases (show g2=s.gens from m.gens)
  cases (show d2=s.drawn from m.drawn)
  cases (show o2=s.os from m.os)
  apply wpAny_pure
  refine wpAny_pure ⟨rfl,h h2 t2 x fun b o e=>m.heap b o ?_ (Heap.get?_push_of_some _ (kp b o e))⟩
  have lb:@LT.lt Nat _ b s.heap.objs.size:=Heap.lt_size e
  rw [sz]
  intro q
  rcases List.mem_cons.mp q with q | q
  ·exact absurd q (Nat.ne_of_lt lb)
  ·exact absurd (List.mem_singleton.mp q) (Nat.ne_of_lt (Nat.lt_succ_of_lt lb))
end
def leS (a b:Str):Bool:=decide (a.cps.toList<=b.cps.toList)
theorem leS_iff {a b:Str}:leS a b=true ↔ a.cps.toList<=b.cps.toList:=by simp [leS]
theorem leS_trans {a b c:Str} (h:leS a b=true) (k:leS b c=true):leS a c=true:=leS_iff.mpr (List.le_trans (leS_iff.mp h) (leS_iff.mp k))
theorem leS_anti {a b:Str} (h:leS a b=true) (k:leS b a=true):a=b:=by
 have e:=List.le_antisymm (leS_iff.mp h) (leS_iff.mp k)
 cases a;cases b
 simp only [Str.mk.injEq]
 exact Array.toList_inj.mp e
theorem leS_total (a b:Str):(leS a b || leS b a)=true:=by
 rcases List.le_total a.cps.toList b.cps.toList with h | h
 ·simp [leS_iff.mpr h]
 ·simp [leS_iff.mpr h]
def srt (zs:List Str):List Str:=zs.mergeSort leS
theorem srt_perm (zs:List Str):(srt zs).Perm zs:=List.mergeSort_perm _ _
theorem srt_pw (zs:List Str):(srt zs).Pairwise fun a b=>leS a b=true:=List.pairwise_mergeSort (le:=leS) (fun _ _ _ h k=>leS_trans h k) leS_total zs
theorem rising_pw:∀ (l:List Str) (p:Str),risingS p l=true->(p::l).Pairwise fun a b=>leS a b=true
 | [],p,_=>by simp
 | x::r,p,h=>by
  have h':(!ltCps x.cps.toList p.cps.toList && risingS x r)=true:=h
  rw [Bool.and_eq_true] at h'
  have ih:=rising_pw r x h'.2
  have px:leS p x=true:=by
   have:=h'.1
   rw [ltCps_eq] at this
   refine leS_iff.mpr ?_
   intro q
   rw [decide_eq_true q] at this
   cases this
  refine List.pairwise_cons.mpr ⟨fun y hy=>?_,ih⟩
  rcases List.mem_cons.mp hy with rfl | hy
  ·exact px
  ·exact leS_trans px ((List.pairwise_cons.mp ih).1 y hy)
theorem sorted_pw:∀ (l:List Str),sortedS l=true->l.Pairwise fun a b=>leS a b=true
 | [],_=>.nil
 | x::r,h=>rising_pw r x h
theorem pw_uniq:∀ {l m:List Str},l.Perm m->(l.Pairwise fun a b=>leS a b=true)->(m.Pairwise fun a b=>leS a b=true)->l=m
 | [],m,p,_,_=>(List.nil_perm.mp p).symm
 | x::l,[],p,_,_=>absurd p (by simp)
 | x::l,y::m,p,a,b=>by
  have a':=List.pairwise_cons.mp a
  have b':=List.pairwise_cons.mp b
  have e:x=y:=by
   rcases List.mem_cons.mp (p.mem_iff.mp List.mem_cons_self) with q | q
   ·exact q
   rcases List.mem_cons.mp (p.mem_iff.mpr List.mem_cons_self) with q' | q'
   ·exact q'.symm
   ·exact leS_anti (a'.1 y q') (b'.1 x q)
  subst e
  rw [pw_uniq ((List.perm_cons _).mp p) a'.2 b'.2]
theorem srt_of {zs ss:List Str} (p:ss.Perm zs) (h:ss.Pairwise fun a b=>leS a b=true):ss=srt zs:=pw_uniq (p.trans (srt_perm zs).symm) h (srt_pw zs)
theorem srt_len (zs:List Str):(srt zs).length=zs.length:=(srt_perm zs).length_eq
section
variable {X:Cx}
theorem call_sorted_txt:CallR X (.builtin "sorted") (fun xs H Q=>∃ (p:Addr) (zs:List Str),xs=[.ref p]/\SqL X.K H p (zs.map V.str)/\zs.length < 64/\∀ l,H l=none->Q (.ref l) (upd H l (.lst ((srt zs).map V.str)))):=by
 intro pins s σ H xs us Q I r h
 obtain ⟨p,zs,rfl,hq,few,q⟩:=h
 obtain ⟨u,rfl,rx⟩:=vals1 r
 cases rx
 obtain ⟨its,rv,pl,hz⟩:=I.list hq
 have el:=strs_len (strs_of rv)
 refine sorted_strs pl.isList (strs_of rv) (by omega) fun out ss a1 a2 a3=>?_
 have e:=srt_of a2 (sorted_pw ss a3)
 subst e
 obtain ⟨n,hn⟩:=sortedAll_at s.heap its out
 have lb:((srt zs).map V.str).length<=sizeLine:=by
  rw [List.length_map,srt_len]
  exact Nat.le_trans (Nat.le_of_lt few) (by decide)
 refine ⟨.ref (s.heap.objs.size+1),_,I.laid (t':=s.toks) (o:=.lst ((srt zs).map V.str)) (fun b o e=>sortedAll_old e) (Nat.le_succ _) ?_,rfl,q _ (I.hok.fresh (Nat.le_succ _))⟩
 exact ⟨lb,out.toList,n,of_strs a1,by rw [hn]⟩
end
def Al (K:PySem.W.Frag) (H:Hp):Nat->V->V->Prop
 | 0,x,y=>flatV x=true/\x=y
 | n+1,x,y=>(flatV x=true/\x=y)\/∃ p q xs ys,x=.ref p/\y=.ref q/\((SqL K H p xs/\SqL K H q ys)\/(SqT K H p xs/\SqT K H q ys))/\xs.length=ys.length/\∀ (i:Nat) a b,xs[i]?=some a->ys[i]?=some b->Al K H n a b
def AlS (K:PySem.W.Frag) (H:Hp) (n:Nat) (x y:V):Prop :=
 ∃ p q xs ys,x=.ref p/\y=.ref q/\((SqL K H p xs/\SqL K H q ys)\/(SqT K H p xs/\SqT K H q ys))/\xs.length=ys.length/\∀ (i:Nat) a b,xs[i]?=some a->ys[i]?=some b->Al K H n a b
theorem Al.txt {K:PySem.W.Frag} {H:Hp} {n:Nat} {z:Str}:Al K H n (.str z) (.str z):=by
 cases n
 ·exact ⟨rfl,rfl⟩
 ·exact .inl ⟨rfl,rfl⟩
theorem eqV_self {x:V} (h:flatV x=true):eqV x x=true:=by
 cases x<;>first | (exact absurd h Bool.false_ne_true) | simp [eqV]
theorem all_range (n:Nat):(List.range n).all (fun _=>true)=true:=by simp
section
variable {X:Cx} {pins:List (Addr × Obj)} {σ:St} {H:Hp} {s:Shared}
theorem al_at (I:Inv X pins σ H s):∀ (n:Nat) (x y:V) (u v:Value) (A:Around),Al X.K H n x y->RelV x u->RelV y v->A.units+n < cLine->SeqAt.EqAt A s u v true:=by
 intro n
 induction n with
 | zero =>
  rintro x y u v A ⟨f,rfl⟩ ru rv _
  have h:=eqAt_V (A:=A) (s:=s) ru rv f f
  rw [eqV_self f] at h
  exact h
 | succ n ih =>
  rintro x y u v A h ru rv hu
  rcases h with ⟨f,rfl⟩ | ⟨p,q,xs,ys,rfl,rfl,h,el,k⟩
  ·have h:=eqAt_V (A:=A) (s:=s) ru rv f f
   rw [eqV_self f] at h
   exact h
  ·cases ru
   cases rv
   by_cases hpq:p=q
   ·subst hpq;exact SeqAt.EqAt.same _
   refine SeqAt.EqAt.of_refs hpq ?_
   have low:A.in1.units+n < cLine:=by rw [units_in1];omega
   have item:∀ {is js:List Value},Vals xs is->Vals ys js->∀ j (h1:j < is.toArray.size) (h2:j < js.toArray.size),SeqAt.EqAt A.in1 s is.toArray[j] js.toArray[j] true:=fun {is js} ri rj j h1 h2=>by
    have b1:j < xs.length:=by rw [ri.length];simpa using h1
    have b2:j < ys.length:=by rw [rj.length];simpa using h2
    obtain ⟨u',e1,r1⟩:=ri.get (List.getElem?_eq_getElem b1)
    obtain ⟨v',e2,r2⟩:=rj.get (List.getElem?_eq_getElem b2)
    have c1:is.toArray[j]=u':=by
     rw [List.getElem_toArray]
     have:=List.getElem?_eq_getElem (l:=is) (i:=j) (by simpa using h1)
     rw [this] at e1;exact Option.some.inj e1
    have c2:js.toArray[j]=v':=by
     rw [List.getElem_toArray]
     have:=List.getElem?_eq_getElem (l:=js) (i:=j) (by simpa using h2)
     rw [this] at e2;exact Option.some.inj e2
    rw [c1,c2]
    exact ih _ _ _ _ _ (k j _ _ (List.getElem?_eq_getElem b1) (List.getElem?_eq_getElem b2)) r1 r2 low
   rcases h with ⟨hp,hq⟩ | ⟨hp,hq⟩
   ·obtain ⟨is,ri,pi,_⟩:=I.list hp
    obtain ⟨js,rj,pj,_⟩:=I.list hq
    have z:=SeqAt.RcAt.lists (A:=A) (e:=fun _=>true) pi.isList pj.isList (by simp only [List.size_toArray];rw [<- ri.length,<- rj.length];exact el) (by omega) (item ri rj)
    rw [all_range] at z
    exact z
   ·obtain ⟨is,ri,pi,_⟩:=I.tuple hp
    obtain ⟨js,rj,pj,_⟩:=I.tuple hq
    have z:=SeqAt.RcAt.tuples (A:=A) (e:=fun _=>true) pi pj (by omega) (item ri rj)
    have e:(is.toArray.size == js.toArray.size)=true:=by simp only [List.size_toArray,beq_iff_eq];rw [<- ri.length,<- rj.length];exact el
    rw [all_range,e] at z
    exact z
theorem als_items (I:Inv X pins σ H s) {n:Nat} {xs ys:List V} {A:Around} (low:A.in1.units+n < cLine) (k:∀ (i:Nat) a b,xs[i]?=some a->ys[i]?=some b->Al X.K H n a b) {is js:List Value} (ri:Vals xs is) (rj:Vals ys js) :
  ∀ j (h1:j < is.toArray.size) (h2:j < js.toArray.size),SeqAt.EqAt A.in1 s is.toArray[j] js.toArray[j] true:=fun j h1 h2=>by
 have b1:j < xs.length:=by rw [ri.length];simpa using h1
 have b2:j < ys.length:=by rw [rj.length];simpa using h2
 obtain ⟨u',e1,r1⟩:=ri.get (List.getElem?_eq_getElem b1)
 obtain ⟨v',e2,r2⟩:=rj.get (List.getElem?_eq_getElem b2)
 have c1:is.toArray[j]=u':=by
  rw [List.getElem_toArray]
  have:=List.getElem?_eq_getElem (l:=is) (i:=j) (by simpa using h1)
  rw [this] at e1;exact Option.some.inj e1
 have c2:js.toArray[j]=v':=by
  rw [List.getElem_toArray]
  have:=List.getElem?_eq_getElem (l:=js) (i:=j) (by simpa using h2)
  rw [this] at e2;exact Option.some.inj e2
 rw [c1,c2]
 exact al_at I n _ _ _ _ _ (k j _ _ (List.getElem?_eq_getElem b1) (List.getElem?_eq_getElem b2)) r1 r2 low
end
section
variable {X:Cx}
theorem op_eq_al (n:Nat) (hu:X.A.units+n+1 < cLine):OpR X (compareOp .Eq) (fun x y H Q=>AlS X.K H n x y/\Q (.bl true) H):=by
 intro pins s σ H x y v u Q I rx ry h
 obtain ⟨⟨p,q,xs,ys,rfl,rfl,h,el,k⟩,fin⟩:=h
 cases rx
 cases ry
 have low:X.A.in1.units+n < cLine:=by rw [units_in1];omega
 rcases h with ⟨hp,hq⟩ | ⟨hp,hq⟩
 ·obtain ⟨is,ri,pi,_⟩:=I.list hp
  obtain ⟨js,rj,pj,_⟩:=I.list hq
  refine SeqAt.eq_listAt (e:=fun _=>true) pi.isList pj.isList (by simp only [List.size_toArray];rw [<- ri.length,<- rj.length];exact el) (by omega) (als_items I low k ri rj) ?_
  exact fin_bl I fin (all_range _).symm
 ·obtain ⟨is,ri,pi,_⟩:=I.tuple hp
  obtain ⟨js,rj,pj,_⟩:=I.tuple hq
  refine SeqAt.eq_tupleAt (e:=fun _=>true) pi pj (by omega) (als_items I low k ri rj) ?_
  have e:(is.toArray.size == js.toArray.size)=true:=by simp only [List.size_toArray,beq_iff_eq];rw [<- ri.length,<- rj.length];exact el
  refine fin_bl I fin ?_
  rw [all_range,e];rfl
theorem op_ne_al (n:Nat) (hu:X.A.units+n+1 < cLine):OpR X (compareOp .NotEq) (fun x y H Q=>AlS X.K H n x y/\Q (.bl false) H):=by
 intro pins s σ H x y v u Q I rx ry h
 obtain ⟨⟨p,q,xs,ys,rfl,rfl,h,el,k⟩,fin⟩:=h
 cases rx
 cases ry
 have low:X.A.in1.units+n < cLine:=by rw [units_in1];omega
 rcases h with ⟨hp,hq⟩ | ⟨hp,hq⟩
 ·obtain ⟨is,ri,pi,_⟩:=I.list hp
  obtain ⟨js,rj,pj,_⟩:=I.list hq
  refine PySem.EqBoolInt.of_rcne (SeqAt.RcNeAt.lists (e:=fun _=>true) pi.isList pj.isList (by simp only [List.size_toArray];rw [<- ri.length,<- rj.length];exact el) (by omega) (als_items I low k ri rj)) ?_
  refine fin_bl I fin ?_
  rw [all_range];rfl
 ·obtain ⟨is,ri,pi,_⟩:=I.tuple hp
  obtain ⟨js,rj,pj,_⟩:=I.tuple hq
  refine PySem.EqBoolInt.of_rcne (SeqAt.RcNeAt.tuples (e:=fun _=>true) pi pj (by omega) (als_items I low k ri rj)) ?_
  have e:(is.toArray.size == js.toArray.size)=true:=by simp only [List.size_toArray,beq_iff_eq];rw [<- ri.length,<- rj.length];exact el
  refine fin_bl I fin ?_
  rw [all_range,e];rfl
def tLenSet (K:PySem.W.Frag) (te:TE):TE:=fun σ H Q=>te σ H fun x H1=>∃ (p:Addr) (zs:List Str),x=.ref p/\SqL K H1 p (zs.map V.str)/\zs.length+1 < scanBound/\Q (.int (dist zs).length) H1
theorem pe_lenset {e:Expr} {te:TE} {xl xs:Str} {p1 p2 pos1 pos2:Pos} (hc:X.calm=true) (he:PE X e te) (gl:Gl X xl) (ml:X.mg xl=none) (vl:bootBuiltins xl=some (.builtin "len")) (gs:Gl X xs) (ms:X.mg xs=none) (vs:bootBuiltins xs=some (.type "set"))
  (hn1:xl≠"__name__" := by decide) (hd1:(xl == ("__debug__" : Str))=false:=by decide) (hn2:xs≠"__name__" := by decide) (hd2:(xs == ("__debug__" : Str))=false:=by decide)
  (hs:starEach [e] X.env=[(false,eval e X.env)]:=by rfl):PE X (.Call (.Name xl p1) [.Call (.Name xs p2) [e] [] pos2] [] pos1) (tLenSet X.K te):=by
 intro pins s σ H Q I h
 refine wpAny_Call_Name_kw (ld_blt I gl ml vl ?_ hn1 hd1)
 refine PyProof.Rows.callWith_builtin1 ?_ rfl rfl
 show wpAny _ _ (spliced [(false,eval (.Call (.Name xs p2) [e] [] pos2) X.env)]) _ _ s
 refine Calls.spliced_cons ?_
 refine wpAny_Call_Name_kw (ld_blt I gs ms vs ?_ hn2 hd2)
 refine PyProof.Rows.callWith_type1 (thn (pa_cons he pa_nil hs pos2 pins s σ H (fun vs H1=>∃ x,vs=[x]/\∃ (p:Addr) (zs:List Str),x=.ref p/\SqL X.K H1 p (zs.map V.str)/\zs.length+1 < scanBound/\Q (.int (dist zs).length) H1) I ?_) fun us s1 h1=>?_) hs rfl
 ·have mono:=h
  refine ?_
  show te σ H _
  exact (show te σ H (fun x H1=>∃ x',[x]=[x']/\∃ (p:Addr) (zs:List Str),x'=.ref p/\SqL X.K H1 p (zs.map V.str)/\zs.length+1 < scanBound/\Q (.int (dist zs).length) H1) from by
   have e:(fun (x:V) (H1:Hp)=>∃ x',[x]=[x']/\∃ (p:Addr) (zs:List Str),x'=.ref p/\SqL X.K H1 p (zs.map V.str)/\zs.length+1 < scanBound/\Q (.int (dist zs).length) H1)=fun x H1=>∃ (p:Addr) (zs:List Str),x=.ref p/\SqL X.K H1 p (zs.map V.str)/\zs.length+1 < scanBound/\Q (.int (dist zs).length) H1:=by
    funext x H1
    refine propext ⟨fun ⟨x',e,r⟩=>?_,fun r=>⟨x,rfl,r⟩⟩
    cases e
    exact r
   rw [e]
   exact h)
 ·obtain ⟨vs',H1,I1,r1,x,rfl,p,zs,rfl,hq,small,q⟩:=h1
  obtain ⟨u,rfl,ru⟩:=vals1 r1
  cases ru
  obtain ⟨its,rv,pl,_⟩:=I1.list hq
  refine set_texts (I1.ok.hd hc) pl.isList (strs_of rv) small fun h' tk T kp=>?_
  refine Calls.spliced_nil ?_
  obtain ⟨o,es,ep,t,ho,hex,hd,_,_,hb,hf,hN⟩:=T
  have I2:Inv X pins σ H1 { s1 with heap:=h',toks:=tk }:=I1.kept (t':=tk) kp
  have fit:(es.size:Int) < 2 ^ 63:=by
   have:es.size < scanBound:=hb
   have z:scanBound<=4096:=by decide
   have:(es.size:Int) < 4096:=by omega
   exact Int.lt_of_lt_of_le this (by decide)
  rw [<- hN] at q
  exact call_len_set ho hex hd hf fit ⟨.int es.size,H1,I2.tok _,⟨_,rfl⟩,q⟩
theorem call_divmod':CallR X (.builtin "divmod") (fun xs H Q=>∃ i j,xs=[.int i,.int j]/\0 < j/\j < 2 ^ 64/\∀ p,H p=none->Q (.ref p) (upd H p (.tup [.int (i / j),.int (i % j)]))):=by
 intro pins s σ H xs us Q I r h
 obtain ⟨i,j,rfl,h1,h2,q⟩:=h
 obtain ⟨u,w',rfl,⟨t,rfl⟩,⟨t',rfl⟩⟩:=vals2 r
 have small:j.natAbs.log2 < 9000:=by
  have a:j.natAbs < 2 ^ 64:=by omega
  have b:j.natAbs≠0:=by omega
  have c:=(Nat.log2_lt b).mpr a
  omega
 refine divmod_int (by omega) ?_ (.inl (PyProof.noPylong_of_log2 small))
 rw [Int.fdiv_eq_ediv_of_nonneg i (by omega),Int.fmod_eq_emod_of_nonneg i (by omega)]
 refine ⟨.ref s.heap.objs.size,_,I.laid (o:=.tup [.int (i / j),.int (i % j)]) (fun b o e=>Heap.get?_push_of_some _ e) (Nat.le_refl _) ⟨?_,[.int (i / j) s.toks,.int (i % j) (s.toks+1)],.cons ⟨_,rfl⟩ (.cons ⟨_,rfl⟩ .nil),⟨_,Heap.get?_push_size s.heap rfl,rfl,0,rfl⟩⟩,rfl,q _ I.fresh⟩
 show 2<=sizeLine
 decide
end
theorem Fun.okO {P:Program} {w:World} {K:PySem.W.Frag} {mg:Str->Option Value} {base:Heap} {x qual:Str} {st:Stmt} {f:Addr} {fd:FuncData} {N ps:List Str} {k:Nat} {sp:Sp} (F:Fun K x qual st f fd) (S:FnScope N ps (defScope st)) (len:∀ vs H Q E,sp vs H Q E->vs.length=ps.length)
  (hbody:∀ (cdv:Value) (A:Around) (outer:List Env) (s:Shared) (H:Hp) (vs:List V) (Q:VK) (E:XK),Room k (A.deeper (envOfC qual (defScope st) s.heap.objs.size f cdv))->sp vs H Q E ->
   ∃ t,PSs (cxOf (CXO P w) P w K mg base N qual (defScope st) f cdv A outer s H E) (defBody st) t/\t { nx:=fun _ H'=>Q .non H',rt:=Q } (start N vs) H):FnOk P w K mg base (CXO P w) (k+1) f fd ps sp:=by
 obtain ⟨oc,od,kV,doc,pm,an,cdv,ct,osl,rfl,lk,hcd⟩:=F.ex
 exact fn_of lk hcd S len (hbody cdv)
end L2
namespace K22
open PySem PySem.Spec PyProof.Rows L2
def top (i:Nat):Stmt:=PySem.Challenge.pw_cutmeet_k22_whole_all_cuts.main.body.getD i (.Pass ⟨0,0,0,0⟩)
abbrev sName:Stmt:=top 17
abbrev sChkP:Stmt:=top 21
abbrev sAmong:Stmt:=top 22
abbrev sTie:Stmt:=top 23
abbrev sChkT:Stmt:=top 24
abbrev sInit:Stmt:=inClass (top 25) 0
abbrev sPlaces:Stmt:=inClass (top 25) 1
abbrev sTies:Stmt:=inClass (top 25) 4
abbrev sWeb:Stmt:=top 44
abbrev sLaw:Stmt:=top 49
structure Df (K:PySem.W.Frag) (mg:Str->Option Value) (x:Str) (st:Stmt) (ps:List Str) (f:Addr) (fd:FuncData):Prop where
 fn:Fun K x x st f fd
 mgf:mg x=some (.ref f)
 b:Binds K fd ps []
def But (p:Addr) (H H':Hp):Prop:=∀ b o,H b=some o->b≠p->H' b=some o
def Row (H:Hp) (p:Addr):Prop:=∃ a b:Int,H p=some (.lst [.int a,.int b])
def spDraw:Sp:=fun vs H Q _=>∃ (p:Addr) (m:Int),vs=[.ref p,.int m]/\Row H p/\0 < m/\m < 2 ^ 64/\∀ (d:Int) (H':Hp),0<=d->d < m->Row H' p->But p H H'->Q (.int d) H'
structure Glb (mg:Str->Option Value):Prop where
 divmod:mg "divmod" = none
 len:mg "len" = none
 all:mg "all" = none
 isinst:mg "isinstance" = none
 str:mg "str" = none
 range:mg "range" = none
 max:mg "max" = none
 min:mg "min" = none
 bool:mg "bool" = none
 list:mg "list" = none
 int:mg "int" = none
 tuple:mg "tuple" = none
 set:mg "set" = none
 sorted:mg "sorted" = none
 longest:∃ t,mg "LONGEST" = some (.int 8 t)
 places:∃ t,mg "MOST_PLACES" = some (.int 12 t)
 ties:∃ t,mg "MOST_TIES" = some (.int 30 t)
section
variable {P:Program} {w:World} {K:PySem.W.Frag} {mg:Str->Option Value} {base:Heap}
def lo (c:Nat):Bool:=!decide ((⟨#[c]⟩:Str).cps.toList < ("a" : Str).cps.toList)
def hi (c:Nat):Bool:=!decide (("z" : Str).cps.toList < (⟨#[c]⟩:Str).cps.toList)
def nm (z:Str):Bool:=(decide (1<=z.length) && decide (z.length<=8)) && (z.cps.toList.map fun c=>lo c && hi c).all id
theorem signs_loop {K:PySem.W.Frag} {z:Str} {H:Hp} {Q:VK} {te:TE} {σ:L2.St} {x:Str} (hz:z.cps.size<=sizeLine) (f:Nat->Bool)
  (he:∀ (c:Nat) (H:Hp) (Q:VK),Q (.bl (f c)) H->te [some (V.str ⟨#[c]⟩)] H Q) (k:∀ D,H D=none->Q (.ref D) (upd H D (.lst ((z.cps.toList.map f).map V.bl)))) :
  lcLoop [x] [] (gName 0) tYes te σ Q (Its z) H:=by
 refine ⟨fun i m ys H2=>H2=H/\i<=z.cps.size/\m=z.cps.size - i/\ys=((z.cps.toList.take i).map f).map V.bl,⟨z.cps.size,rfl,Nat.zero_le _,rfl,rfl⟩,?_⟩
 rintro i m ys H2 ⟨rfl,hi,rfl,rfl⟩
 refine ⟨by simp;omega,?_⟩
 by_cases h:i < z.cps.size
 ·refine .inr ⟨h,fun x H3 hy=>?_⟩
  obtain ⟨rfl,c,hc,rfl⟩:=hy
  simp only [tYes,gName,if_true]
  refine he c _ _ ⟨z.cps.size - (i+1),by omega,rfl,h,rfl,?_⟩
  have e:(z.cps.toList.take (i+1))=z.cps.toList.take i++[c]:=by
   rw [List.take_add_one]
   have:z.cps.toList[i]?=some c:=by simpa using hc
   rw [this];rfl
  rw [e];simp
 ·have e:i=z.cps.size:=by omega
  subst e
  refine .inl ⟨rfl,fun D hD=>?_⟩
  have q:=k D hD
  rw [List.take_of_length_le (by simp)]
  exact q
def spName:Sp:=fun vs H Q _=>(∃ z:Str,vs=[.str z]/\z.length<=1000/\∀ H',Same H H'->Q (.bl (nm z)) H')\/∃ x t,vs=[x]/\TyOf K H x t/\PySem.W.kitOne K t (.type "str")=some false/\Q (.bl false) H
theorem scN:FnScope ["thing"] ["thing"] (defScope sName):=⟨rfl,rfl,rfl,by decide +kernel,rfl,by decide +kernel,by decide +kernel⟩
theorem ok_name {f:Addr} {fd:FuncData} (F:Fun K "is_name" "is_name" sName f fd) (T:Glb mg):FnOk P w K mg base CX0 1 f fd ["thing"] (spName (K:=K)):=by
 refine F.ok scN (fun vs H Q E h=>?_) (fun cdv A outer s H vs Q E hr h=>?_)
 ·rcases h with ⟨z,rfl,_⟩ | ⟨x,t,rfl,_⟩<;>rfl
 ·obtain ⟨t8,h8⟩:=T.longest
  refine ⟨_,pss_cons (ps_if (PW.pt (pw_or (pt_not (pt_val (pe_callB (call_isinst (T:="str")) (by rfl) T.isinst boot_isinstance (pa_cons (pv 0) (pa_cons (pe_bltn (v:=.ty "str") rfl T.str PyProof.Rows.boot_str rfl) pa_nil))) (fun _=>rfl)))
    (pw_or1 (pt_not (pt_chain op_le op_le pe_int (pe_callB call_len_str (by rfl) T.len PySem.boot_len (pa_cons (pv 0) pa_nil)) (pe_glob (v:=.int 8) rfl h8 ⟨_,rfl⟩)))))) (pss_one (ps_ret pe_bl)) pss_nil)
   (pss_one (ps_ret (pe_callB (call_all rfl) (by rfl) T.all boot_all (pa_cons (pe_lc ["sign"] [] rfl (compSc (osc:=(defScope sName).names) (N:=["thing"]) rfl rfl (by decide +kernel)) (gk_name (by decide)) (pi_str (pv 0)) (fun _ _ _=>pg_name (i:=0) (show (["sign"]:List Str).Nodup by decide +kernel) rfl (Or.inl rfl)) (fun _ _ _=>pifs_nil)
    (fun _ _ _=>pe_chain op_le_str op_le_str pe_str (pv 0) pe_str)) pa_nil)))),?_⟩
  rcases h with ⟨z,rfl,hz,k⟩ | ⟨x,t,rfl,ty,ki,k⟩
  ·have hzs:z.length<=sizeLine:=Nat.le_trans hz (by decide)
   refine ⟨_,rfl,_,_,true,rfl,.str z,rfl,_,rfl,?_⟩
   refine iteF ?_
   refine ⟨_,rfl,z,rfl,hzs,_,_,rfl,rfl,_,rfl,?_⟩
   refine ite2 (fun h1=>?_) (fun h1=>?_)
   ·refine ⟨_,_,rfl,rfl,_,rfl,?_⟩
    refine ite2 (fun h2=>?_) (fun h2=>?_)
    ·have e:nm z=false:=by
      have:¬ z.length<=8:=by simp at h2;omega
      simp [nm,this]
     exact e ▸ k H (Same.refl _)
    ·have e:nm z=(z.cps.toList.map fun c=>lo c && hi c).all id:=by
      have a1:1<=z.length:=by simp at h1;omega
      have a2:z.length<=8:=by simp at h2;omega
      unfold nm
      rw [decide_eq_true a1,decide_eq_true a2];rfl
     refine ⟨_,rfl,z,rfl,signs_loop (K:=K) hzs (fun c=>lo c && hi c) (fun c H Q q=>?_) (fun D hD=>⟨D,_,rfl,SqL.of upd_same,?_⟩)⟩
     ·refine ⟨_,rfl,_,_,rfl,rfl,_,rfl,?_⟩
      have q':Q (.bl (lo c && hi c)) H:=q
      refine ite2 (fun h=>?_) (fun h=>?_)
      ·refine ⟨_,_,rfl,rfl,?_⟩
       have e1:lo c=true:=h
       rw [e1,Bool.true_and] at q'
       exact q'
      ·have e1:lo c=false:=by simpa using (show ¬ lo c=true from h)
       rw [e1,Bool.false_and] at q'
       exact q'
     ·exact e ▸ k _ fun c o q=>by rw [upd_ne (ne_of_none q hD)];exact q
   ·refine ⟨_,rfl,?_⟩
    have e:nm z=false:=by
     have:¬ 1<=z.length:=by simp at h1;omega
     simp [nm,this]
    exact iteT (e ▸ k H (Same.refl _))
  ·refine ⟨_,rfl,_,_,false,rfl,ty,ki,_,rfl,?_⟩
   exact iteT k
theorem But.trans {p:Addr} {H H1 H2:Hp} (a:But p H H1) (b:But p H1 H2):But p H H2:=fun c o h n=>b c o (a c o h n) n
theorem But.laid {p q:Addr} {H H1:Hp} {o:HO} (a:But p H H1) (hq:H1 q=none) (hp:Row H1 p):But p H (upd H1 q o)/\Row (upd H1 q o) p:=by
 obtain ⟨x,y,hp⟩:=hp
 exact ⟨fun c u h n=>by rw [upd_ne (ne_of_none (a c u h n) hq)];exact a c u h n,x,y,by rw [upd_ne (ne_of_none hp hq)];exact hp⟩
theorem letters26:("abcdefghijklmnopqrstuvwxyz" : Str).length=26:=by decide +kernel
theorem lit_ix {z:Str} {d:Int} (h0:0<=d) (h1:d < (z.length:Int)):∃ c,atI z.cps.toList d=some c:=by
 obtain ⟨n,rfl⟩:=Int.eq_ofNat_of_zero_le h0
 have hn:n < z.cps.toList.length:=by
  have:n < z.length:=by omega
  rw [Array.length_toList];exact this
 exact ⟨z.cps.toList[n],atI_nat (by simp [hn])⟩
theorem same_upd {H:Hp} {a:Addr} {o:HO} (h:H a=none):Same H (upd H a o):=fun b u e=>by rw [upd_ne (ne_of_none e h)];exact e
structure GoodP (ns:List Str):Prop where
 one:1<=ns.length
 few:ns.length<=12
 nms:∀ z∈ns,nm z=true
 nd:ns.Nodup
theorem nm_len {z:Str} (h:nm z=true):z.length<=8:=by
 unfold nm at h
 simp only [Bool.and_eq_true,decide_eq_true_eq] at h
 exact h.1.2
def spChkP:Sp:=fun vs H Q _=>∃ (a:Addr) (ns:List Str),vs=[.ref a]/\H a=some (.lst (ns.map V.str))/\GoodP ns/\∀ H',Same H H'->Q .non H'
theorem scCP:FnScope ["places"] ["places"] (defScope sChkP):=⟨rfl,rfl,rfl,by decide +kernel,rfl,by decide +kernel,by decide +kernel⟩
theorem ok_chkP {f fN:Addr} {fd fdN:FuncData} (F:Fun K "check_places" "check_places" sChkP f fd) (DN:Df K mg "is_name" sName ["thing"] fN fdN) (T:Glb mg):FnOk P w K mg base CX0 2 f fd ["places"] spChkP:=by
 have GN:FnOk P w K mg base CX0 1 fN fdN ["thing"] (spName (K:=K)):=ok_name DN.fn T
 refine F.ok scCP (fun vs H Q E h=>?_) (fun cdv A outer s H vs Q E hr h=>?_)
 ·obtain ⟨a,ns,rfl,_⟩:=h
  rfl
 ·obtain ⟨a,ns,rfl,ha,g,k⟩:=h
  obtain ⟨t12,h12⟩:=T.places
  refine ⟨_,pss_cons (ps_if (PW.pt (pw_or (pt_not (pt_val (pe_callB (call_isinst (T:="list")) (by rfl) T.isinst boot_isinstance (pa_cons (pv 0) (pa_cons (pe_bltn (v:=.ty "list") rfl T.list PyProof.Rows.boot_list rfl) pa_nil))) (fun _=>rfl)))
    (pw_or1 (pt_not (pt_chain op_le op_le pe_int (pe_callB call_len_seq (by rfl) T.len PySem.boot_len (pa_cons (pv 0) pa_nil)) (pe_glob (v:=.int 12) rfl h12 ⟨_,rfl⟩)))))) (pss_one ps_never) pss_nil)
   (pss_cons (ps_if (pt_not (pt_val (pe_callB (call_all rfl) (by rfl) T.all boot_all (pa_cons (pe_lc ["place"] [] rfl (compSc (osc:=(defScope sChkP).names) (N:=["places"]) rfl rfl (by decide +kernel)) (gk_name (by decide)) (pi_list (pv 0)) (fun _ _ _=>pg_name (i:=0) (show (["place"]:List Str).Nodup by decide +kernel) rfl (Or.inl rfl)) (fun _ _ _=>pifs_nil)
     (fun _ _ _=>pe_call GN hr rfl DN.mgf DN.fn.kp DN.b .nil pass0 (pa_cons (pv 0) pa_nil))) pa_nil)) (fun _=>rfl))) (pss_one ps_never) pss_nil)
   (pss_one (ps_if (pt_cmpR op_lt (pe_lenset rfl (pv 0) rfl T.len PySem.boot_len rfl T.set PyProof.Rows.boot_set) (pe_callB call_len_seq (by rfl) T.len PySem.boot_len (pa_cons (pv 0) pa_nil)) (nomark _)) (pss_one ps_never) pss_nil))),?_⟩
  refine ⟨_,rfl,_,_,true,rfl,.lst ha,rfl,_,rfl,?_⟩
  refine iteF ?_
  have le:(ns.map V.str).length=ns.length:=List.length_map ..
  refine ⟨_,rfl,a,_,rfl,.inl (SqL.of ha),_,_,rfl,rfl,_,rfl,?_⟩
  rw [le]
  have g1:=g.one
  have g2:=g.few
  refine ite2 (fun _=>?_) (fun z=>absurd z (by simp;omega))
  refine ⟨_,_,rfl,rfl,_,rfl,?_⟩
  refine ite2 (fun z=>absurd z (by simp;omega)) (fun _=>?_)
  refine ⟨_,rfl,a,rfl,⟨_,SqL.of ha⟩,lc_list (K:=K) (xs:=ns.map V.str) (fun i ys H2=>Same H H2/\ys=List.replicate i (V.bl true)) ⟨Same.refl _,rfl⟩ ?_ ?_ ?_ ?_⟩
  ·rintro i ys H2 hi ⟨_,rfl⟩
   rw [List.length_replicate]
   rw [le] at hi
   exact Nat.le_trans hi (Nat.le_trans g.few (by decide))
  ·rintro i ys H2 _ ⟨s2,_⟩
   exact SqL.of (s2 _ _ ha)
  ·rintro i x ys H2 R hx ⟨s2,rfl⟩ kR
   rw [List.getElem?_map] at hx
   obtain ⟨z,ez,rfl⟩:=Option.map_eq_some_iff.mp hx
   have gz:=g.nms z (List.mem_of_getElem? ez)
   simp only [tYes,gName,if_true]
   refine ⟨_,rfl,.inl ⟨z,rfl,Nat.le_trans (nm_len gz) (by decide),fun H3 s3=>?_⟩⟩
   rw [gz]
   exact kR _ _ ⟨s2.trans s3,by rw [List.replicate_succ']⟩
  ·rintro ys H2 ⟨s2,rfl⟩ D hD
   rw [le]
   have e:List.replicate ns.length (V.bl true)=(List.replicate ns.length true).map V.bl:=by simp
   refine ⟨D,List.replicate ns.length true,rfl,(by rw [e];exact SqL.of upd_same),_,rfl,?_⟩
   have e2:(List.replicate ns.length true).all id=true:=by simp
   rw [e2]
   refine iteF ?_
   have s3:Same H (upd H2 D (.lst (List.replicate ns.length (V.bl true)))):=s2.trans (same_upd hD)
   refine ⟨_,rfl,a,ns,rfl,SqL.of (s3 _ _ ha),(by have:=g.few;show ns.length+1 < scanBound;exact Nat.lt_of_le_of_lt (Nat.succ_le_succ this) (by decide)),_,rfl,a,_,rfl,.inl (SqL.of (s3 _ _ ha)),_,_,rfl,rfl,_,rfl,?_⟩
   rw [dist_nd g.nd,le]
   refine ite2 (fun z=>absurd z (by simp)) (fun _=>?_)
   exact k _ s3
end
theorem inV_str (z:Str) (ns:List Str):inV (.str z) (ns.map V.str)=decide (z∈ns):=by
 unfold inV
 rw [List.any_map,Bool.eq_iff_iff,decide_eq_true_iff]
 simp only [List.any_eq_true,Function.comp,eqV,beq_iff_eq]
 exact ⟨fun ⟨y,h,e⟩=>e ▸ h,fun h=>⟨z,h,rfl⟩⟩
theorem flat_strs (ns:List Str):(ns.map V.str).all flatV=true:=by
 rw [List.all_map,List.all_eq_true]
 intro _ _
 rfl
section
variable {P:Program} {w:World} {K:PySem.W.Frag} {mg:Str->Option Value} {base:Heap}
def spAmong:Sp:=fun vs H Q _=>(∃ (a:Addr) (ns:List Str) (z:Str),vs=[.ref a,.str z]/\SqL K H a (ns.map V.str)/\Q (.bl (decide (z∈ns))) H)\/∃ (a:Addr) (x:V) (t:Value),vs=[.ref a,x]/\TyOf K H x t/\PySem.W.kitOne K t (.type "str")=some false/\Q (.bl false) H
theorem scAm:FnScope ["places","thing"] ["places","thing"] (defScope sAmong):=⟨rfl,rfl,rfl,by decide +kernel,rfl,by decide +kernel,by decide +kernel⟩
theorem ok_among {f:Addr} {fd:FuncData} (F:Fun K "is_among" "is_among" sAmong f fd) (T:Glb mg):FnOk P w K mg base CX0 1 f fd ["places","thing"] (spAmong (K:=K)):=by
 refine F.ok scAm (fun vs H Q E h=>?_) (fun cdv A outer s H vs Q E hr h=>?_)
 ·rcases h with ⟨a,ns,z,rfl,_⟩ | ⟨a,x,t,rfl,_⟩<;>rfl
 ·refine ⟨_,pss_one (ps_ret (pe_and (pe_callB (call_isinst (T:="str")) (by rfl) T.isinst boot_isinstance (pa_cons (pv 1) (pa_cons (pe_bltn (v:=.ty "str") rfl T.str PyProof.Rows.boot_str rfl) pa_nil))) (pe_one (pe_cmpR op_in_seq (pv 1) (pv 0) rfl)))),?_⟩
  rcases h with ⟨a,ns,z,rfl,ha,k⟩ | ⟨a,x,t,rfl,ty,e,k⟩
  ·refine ⟨_,rfl,_,_,true,rfl,.str z,rfl,_,rfl,?_⟩
   refine iteT ⟨_,rfl,_,rfl,a,_,rfl,.inl ha,rfl,flat_strs ns,?_⟩
   rw [inV_str]
   exact k
  ·refine ⟨_,rfl,x,t,false,rfl,ty,e,_,rfl,?_⟩
   exact iteF k
def spTie:Sp:=fun vs H Q _=>∃ (a:Addr) (ns:List Str) (t:Addr) (x y:Str),vs=[.ref a,.ref t]/\SqL K H a (ns.map V.str)/\H t=some (.tup [.str x,.str y])/\Q (.bl (decide (x∈ns) && decide (y∈ns))) H
theorem scTi:FnScope ["places","thing"] ["places","thing"] (defScope sTie):=⟨rfl,rfl,rfl,by decide +kernel,rfl,by decide +kernel,by decide +kernel⟩
theorem ok_tie {f fA:Addr} {fd fdA:FuncData} (F:Fun K "is_tie" "is_tie" sTie f fd) (DA:Df K mg "is_among" sAmong ["places","thing"] fA fdA) (T:Glb mg):FnOk P w K mg base CX0 2 f fd ["places","thing"] (spTie (K:=K)):=by
 have GA:FnOk P w K mg base CX0 1 fA fdA ["places","thing"] (spAmong (K:=K)):=ok_among DA.fn T
 refine F.ok scTi (fun vs H Q E h=>?_) (fun cdv A outer s H vs Q E hr h=>?_)
 ·obtain ⟨a,ns,t,x,y,rfl,_⟩:=h
  rfl
 ·obtain ⟨a,ns,t,x,y,rfl,ha,ht,k⟩:=h
  refine ⟨_,pss_cons (ps_if (PW.pt (pw_or (pt_not (pt_val (pe_callB (call_isinst (T:="tuple")) (by rfl) T.isinst boot_isinstance (pa_cons (pv 1) (pa_cons (pe_bltn (v:=.ty "tuple") rfl T.tuple PyProof.Rows.boot_tuple rfl) pa_nil))) (fun _=>rfl)))
    (pw_or1 (pt_cmpR op_ne (pe_callB call_len_seq (by rfl) T.len PySem.boot_len (pa_cons (pv 1) pa_nil)) pe_int (nomark _))))) (pss_one (ps_ret pe_bl)) pss_nil)
   (pss_one (ps_ret (pe_and (pe_call GA hr rfl DA.mgf DA.fn.kp DA.b .nil pass0 (pa_cons (pv 0) (pa_cons (pe_ix ix_tup (pv 1) pe_int (fun _ _=>rfl)) pa_nil))) (pe_one (pe_call GA hr rfl DA.mgf DA.fn.kp DA.b .nil pass0 (pa_cons (pv 0) (pa_cons (pe_ix ix_tup (pv 1) pe_int (fun _ _=>rfl)) pa_nil))))))),?_⟩
  refine ⟨_,rfl,_,_,true,rfl,.tup ht,rfl,_,rfl,?_⟩
  refine iteF ⟨_,rfl,t,_,rfl,.inr (SqT.of ht),rfl,_,rfl,?_⟩
  refine iteF ?_
  refine ⟨_,rfl,_,rfl,t,_,_,_,rfl,rfl,SqT.of ht,atI_nat (j:=0) rfl,.inl ⟨a,ns,x,rfl,ha,_,rfl,?_⟩⟩
  refine ite2 (fun e=>?_) (fun e=>?_)
  ·refine ⟨_,rfl,_,rfl,t,_,_,_,rfl,rfl,SqT.of ht,atI_nat (j:=1) rfl,.inl ⟨a,ns,y,rfl,ha,?_⟩⟩
   rw [e,Bool.true_and] at k
   exact k
  ·rw [Bool.eq_false_iff.mpr e,Bool.false_and] at k
   exact k
def TiesAt (H:Hp):List Addr->List (Str × Str)->Prop:=Paired fun t p=>H t=some (.tup [.str p.1,.str p.2])
def InP (ns:List Str) (ps:List (Str × Str)):Prop:=∀ p∈ps,p.1∈ns/\p.2∈ns
theorem TiesAt.mono {H H':Hp} {ts:List Addr} {ps:List (Str × Str)} (h:TiesAt H ts ps) (k:∀ t xs,H t=some (.tup xs)->H' t=some (.tup xs)):TiesAt H' ts ps:=Paired.mapP h fun t p e=>k t _ e
theorem TiesAt.same {H H':Hp} {ts:List Addr} {ps:List (Str × Str)} (h:TiesAt H ts ps) (s:Same H H'):TiesAt H' ts ps:=h.mono fun t xs e=>s t _ e
theorem TiesAt.but {p:Addr} {H H':Hp} {ts:List Addr} {ps:List (Str × Str)} (h:TiesAt H ts ps) (s:But p H H') (np:∀ xs,H p≠some (.tup xs)):TiesAt H' ts ps:=h.mono fun t xs e=>s t _ e fun z=>np xs (z ▸ e)
theorem TiesAt.len {H:Hp} {ts:List Addr} {ps:List (Str × Str)} (h:TiesAt H ts ps):ts.length=ps.length:=Paired.length h
theorem TiesAt.get {H:Hp}:∀ {ts:List Addr} {ps:List (Str × Str)} {i:Nat} {t:Addr},TiesAt H ts ps->ts[i]?=some t->∃ p,ps[i]?=some p/\H t=some (.tup [.str p.1,.str p.2])
 | _,_,_,_,.nil,e=>by simp at e
 | _,_,0,_,.cons r _,e=>by simp at e;subst e;exact ⟨_,rfl,r⟩
 | _,_,i+1,t,.cons _ h,e=>by
  obtain ⟨p,h1,h2⟩:=TiesAt.get (i:=i) (t:=t) h (by simpa using e)
  exact ⟨p,by simpa using h1,h2⟩
theorem TiesAt.snoc {H:Hp} {ts:List Addr} {ps:List (Str × Str)} {t:Addr} {p:Str × Str} (h:TiesAt H ts ps) (e:H t=some (.tup [.str p.1,.str p.2])):TiesAt H (ts++[t]) (ps++[p]):=Paired.snoc h e
def spChkT:Sp:=fun vs H Q _=>∃ (a b:Addr) (ns:List Str) (ts:List Addr) (ps:List (Str × Str)),vs=[.ref a,.ref b]/\H a=some (.lst (ns.map V.str))/\H b=some (.lst (ts.map V.ref))/\TiesAt H ts ps/\InP ns ps/\ps.length<=30/\∀ H',Same H H'->Q .non H'
theorem scCT:FnScope ["places","ties"] ["places","ties"] (defScope sChkT):=⟨rfl,rfl,rfl,by decide +kernel,rfl,by decide +kernel,by decide +kernel⟩
theorem ok_chkT {f fA fT:Addr} {fd fdA fdT:FuncData} (F:Fun K "check_ties" "check_ties" sChkT f fd) (DA:Df K mg "is_among" sAmong ["places","thing"] fA fdA) (DT:Df K mg "is_tie" sTie ["places","thing"] fT fdT) (T:Glb mg):FnOk P w K mg base CX0 3 f fd ["places","ties"] spChkT:=by
 have GT:FnOk P w K mg base CX0 2 fT fdT ["places","thing"] (spTie (K:=K)):=ok_tie DT.fn DA T
 refine F.ok scCT (fun vs H Q E h=>?_) (fun cdv A outer s H vs Q E hr h=>?_)
 ·obtain ⟨a,b,ns,ts,ps,rfl,_⟩:=h
  rfl
 ·obtain ⟨a,b,ns,ts,ps,rfl,ha,hb,hT,hI,few,k⟩:=h
  obtain ⟨t30,h30⟩:=T.ties
  refine ⟨_,pss_cons (ps_if (PW.pt (pw_or (pt_not (pt_val (pe_callB (call_isinst (T:="list")) (by rfl) T.isinst boot_isinstance (pa_cons (pv 1) (pa_cons (pe_bltn (v:=.ty "list") rfl T.list PyProof.Rows.boot_list rfl) pa_nil))) (fun _=>rfl)))
    (pw_or1 (pt_cmpR op_gt (pe_callB call_len_seq (by rfl) T.len PySem.boot_len (pa_cons (pv 1) pa_nil)) (pe_glob (v:=.int 30) rfl h30 ⟨_,rfl⟩) (nomark _))))) (pss_one ps_never) pss_nil)
   (pss_one (ps_if (pt_not (pt_val (pe_callB (call_all rfl) (by rfl) T.all boot_all (pa_cons (pe_lc ["tie"] [0] rfl (compSc (osc:=(defScope sChkT).names) (N:=["places","ties"]) rfl rfl (by decide +kernel)) (gk_name (by decide)) (pi_list (pv 1)) (fun _ _ _=>pg_name (i:=0) (show (["tie","places"]:List Str).Nodup by decide +kernel) rfl (Or.inl rfl)) (fun _ _ _=>pifs_nil)
     (fun _ _ _=>pe_call GT hr rfl DT.mgf DT.fn.kp DT.b .nil pass0 (pa_cons (pv 1) (pa_cons (pv 0) pa_nil)))) pa_nil)) (fun _=>rfl))) (pss_one ps_never) pss_nil)),?_⟩
  have le:(ts.map V.ref).length=ps.length:=by rw [List.length_map,hT.len]
  refine ⟨_,rfl,_,_,true,rfl,.lst hb,rfl,_,rfl,?_⟩
  refine iteF ⟨_,rfl,b,_,rfl,.inl (SqL.of hb),_,_,rfl,rfl,_,rfl,?_⟩
  rw [le]
  refine ite2 (fun z=>absurd z (by simp;omega)) (fun _=>?_)
  refine ⟨_,rfl,b,rfl,⟨_,SqL.of hb⟩,lc_list (K:=K) (xs:=ts.map V.ref) (fun i ys H2=>Same H H2/\ys=List.replicate i (V.bl true)) ⟨Same.refl _,rfl⟩ ?_ ?_ ?_ ?_⟩
  ·rintro i ys H2 hi ⟨_,rfl⟩
   rw [List.length_replicate]
   rw [le] at hi
   exact Nat.le_trans hi (Nat.le_trans few (by decide))
  ·rintro i ys H2 _ ⟨s2,_⟩
   exact SqL.of (s2 _ _ hb)
  ·rintro i x ys H2 R hx ⟨s2,rfl⟩ kR
   rw [List.getElem?_map] at hx
   obtain ⟨t,et,rfl⟩:=Option.map_eq_some_iff.mp hx
   obtain ⟨p,ep,ht⟩:=hT.get et
   obtain ⟨i1,i2⟩:=hI p (List.mem_of_getElem? ep)
   simp only [tYes,gName,if_true]
   refine ⟨_,rfl,_,rfl,a,ns,t,p.1,p.2,rfl,SqL.of (s2 _ _ ha),s2 _ _ ht,?_⟩
   rw [decide_eq_true i1,decide_eq_true i2]
   exact kR _ _ ⟨s2,by rw [List.replicate_succ'];rfl⟩
  ·rintro ys H2 ⟨s2,rfl⟩ D hD
   have e:List.replicate (ts.map V.ref).length (V.bl true)=(List.replicate (ts.map V.ref).length true).map V.bl:=by simp
   refine ⟨D,List.replicate (ts.map V.ref).length true,rfl,(by rw [e];exact SqL.of upd_same),_,rfl,?_⟩
   have e2:(List.replicate (ts.map V.ref).length true).all id=true:=by simp
   rw [e2]
   exact iteF (k _ (s2.trans (same_upd hD)))
end
structure WC (K:PySem.W.Frag) (mg:Str->Option Value) (C:Addr):Prop where
 cl:Cls K C
 nP:NoAttr K C "kept_places"
 nT:NoAttr K C "kept_ties"
 mgC:mg "Web" = some (.ref C)
def wf (kp kt:Addr):List (Str × V):=[("kept_places",.ref kp),("kept_ties",.ref kt)]
def WebObj (C:Addr) (H:Hp) (x:Addr) (ns:List Str) (ps:List (Str × Str)):Prop :=
 ∃ dx kp kt ts,H x=some (.ins C dx (wf kp kt))/\H kp=some (.tup ((srt ns).map V.str))/\H kt=some (.tup (ts.map V.ref))/\TiesAt H ts ps
theorem WebObj.same {C:Addr} {H H':Hp} {x:Addr} {ns:List Str} {ps:List (Str × Str)} (h:WebObj C H x ns ps) (s:Same H H'):WebObj C H' x ns ps :=
 let ⟨dx,kp,kt,ts,h1,h2,h3,h4⟩:=h
 ⟨dx,kp,kt,ts,s _ _ h1,s _ _ h2,s _ _ h3,h4.same s⟩
theorem WebObj.but {C p:Addr} {H H':Hp} {x:Addr} {ns:List Str} {ps:List (Str × Str)} {xs:List V} (h:WebObj C H x ns ps) (s:But p H H') (hp:H p=some (.lst xs)):WebObj C H' x ns ps :=
 let ⟨dx,kp,kt,ts,h1,h2,h3,h4⟩:=h
 ⟨dx,kp,kt,ts,s _ _ h1 (ne_of h1 hp (by intro z;cases z)),s _ _ h2 (ne_of h2 hp (by intro z;cases z)),s _ _ h3 (ne_of h3 hp (by intro z;cases z)),h4.but s (fun ys z=>by rw [hp] at z;cases z)⟩
theorem wf_p (kp kt:Addr):(wf kp kt).lookup ("kept_places" : Str)=some (V.ref kp):=rfl
theorem wf_t (kp kt:Addr):(wf kp kt).lookup ("kept_ties" : Str)=some (V.ref kt):=by
 show List.lookup _ (_::_)=_
 rw [List.lookup_cons,show (("kept_ties" : Str) == "kept_places")=false by decide +kernel]
 rfl
theorem wf_no (kp kt:Addr) (m:Str) (h1:(m == ("kept_places" : Str))=false) (h2:(m == ("kept_ties" : Str))=false):(wf kp kt).lookup m=none:=by
 show List.lookup _ (_::_)=_
 rw [List.lookup_cons,h1]
 show List.lookup _ (_::_)=_
 rw [List.lookup_cons,h2]
 rfl
section
variable {P:Program} {w:World} {K:PySem.W.Frag} {mg:Str->Option Value} {base:Heap}
structure Lists (H:Hp) (a b:Addr) (ns:List Str) (ps:List (Str × Str)) (ts:List Addr):Prop where
 ha:H a=some (.lst (ns.map V.str))
 hb:H b=some (.lst (ts.map V.ref))
 hT:TiesAt H ts ps
 good:GoodP ns
 ins:InP ns ps
 few:ps.length<=30
theorem Lists.same {H H':Hp} {a b:Addr} {ns:List Str} {ps:List (Str × Str)} {ts:List Addr} (h:Lists H a b ns ps ts) (s:Same H H'):Lists H' a b ns ps ts:=⟨s _ _ h.ha,s _ _ h.hb,h.hT.same s,h.good,h.ins,h.few⟩
def spInit (C:Addr):Sp:=fun vs H Q _=>∃ (x a b:Addr) (ns:List Str) (ps:List (Str × Str)) (ts:List Addr),vs=[.ref x,.ref a,.ref b]/\(∃ dx,H x=some (.ins C dx []))/\Lists H a b ns ps ts/\∀ H',WebObj C H' x ns ps->But x H H'->Q .non H'
theorem scIn:FnScope ["self","places","ties"] ["self","places","ties"] (defScope sInit):=⟨rfl,rfl,rfl,by decide +kernel,rfl,by decide +kernel,by decide +kernel⟩
theorem ok_init {C f fN fA fT f1 f2:Addr} {fd fdN fdA fdT fd1 fd2:FuncData} (F:Fun K "__init__" "Web.__init__" sInit f fd) (W:WC K mg C) (DN:Df K mg "is_name" sName ["thing"] fN fdN) (DA:Df K mg "is_among" sAmong ["places","thing"] fA fdA) (DT:Df K mg "is_tie" sTie ["places","thing"] fT fdT)
  (D1:Df K mg "check_places" sChkP ["places"] f1 fd1) (D2:Df K mg "check_ties" sChkT ["places","ties"] f2 fd2) (T:Glb mg):FnOk P w K mg base CX0 4 f fd ["self","places","ties"] (spInit C):=by
 have G1:FnOk P w K mg base CX0 2 f1 fd1 ["places"] spChkP:=ok_chkP D1.fn DN T
 have G2:FnOk P w K mg base CX0 3 f2 fd2 ["places","ties"] spChkT:=ok_chkT D2.fn DA DT T
 refine F.ok scIn (fun vs H Q E h=>?_) (fun cdv A outer s H vs Q E hr h=>?_)
 ·obtain ⟨x,a,b,ns,ps,ts,rfl,_⟩:=h
  rfl
 ·obtain ⟨x,a,b,ns,ps,ts,rfl,⟨dx,hx⟩,L,k⟩:=h
  refine ⟨_,pss_cons (ps_expr (pe_call G1 (hr.mono (by decide)) rfl D1.mgf D1.fn.kp D1.b .nil pass0 (pa_cons (pv 1) pa_nil)))
   (pss_cons (ps_expr (pe_call G2 (hr.mono (by decide)) rfl D2.mgf D2.fn.kp D2.b .nil pass0 (pa_cons (pv 1) (pa_cons (pv 2) pa_nil))))
   (pss_cons (ps_fld (pv 0) (pe_callTy call_tuple_of (by rfl) T.tuple PyProof.Rows.boot_tuple (pa_cons (pe_callB call_sorted_txt (by rfl) T.sorted boot_sorted (pa_cons (pv 1) pa_nil)) pa_nil)) rfl)
   (pss_one (ps_fld (pv 0) (pe_callTy call_tuple_of (by rfl) T.tuple PyProof.Rows.boot_tuple (pa_cons (pe_lc ["a","b"] [] rfl (compSc (osc:=(defScope sInit).names) (N:=["self","places","ties"]) rfl rfl (by decide +kernel)) (gk_two (k:=2) (by decide) (by decide)) (pi_list (pv 2))
    (fun _ _ _=>pg_tup (n:=2) rfl (pgs_cons (pg_name (i:=0) (show (["a","b"]:List Str).Nodup by decide +kernel) rfl (Or.inl rfl)) (pgs_cons (pg_name (i:=1) (show (["a","b"]:List Str).Nodup by decide +kernel) rfl (Or.inl rfl)) pgs_nil))) (fun _ _ _=>pifs_nil)
    (fun _ _ _=>pe_tup (pa_cons (pv 0) (pa_cons (pv 1) pa_nil)))) pa_nil)) rfl)))),?_⟩
  refine ⟨_,rfl,a,ns,rfl,L.ha,L.good,fun H1 s1=>?_⟩
  have L1:=L.same s1
  refine ⟨_,rfl,_,rfl,a,b,ns,ts,ps,rfl,L1.ha,L1.hb,L1.hT,L1.ins,L1.few,fun H2 s2=>?_⟩
  have L2':=L1.same s2
  refine ⟨_,rfl,a,ns,rfl,SqL.of L2'.ha,Nat.lt_of_le_of_lt L.good.few (by decide),fun l hl=>?_⟩
  refine ⟨l,_,rfl,.inl ⟨SqL.of upd_same,fun kp hkp=>?_⟩⟩
  have s3:Same H2 (upd (upd H2 l (.lst ((srt ns).map V.str))) kp (.tup ((srt ns).map V.str))):=(same_upd hl).trans (same_upd hkp)
  have s03:=(s1.trans s2).trans s3
  have hkp3:=upd_same (H:=upd H2 l (.lst ((srt ns).map V.str))) (a:=kp) (o:=.tup ((srt ns).map V.str))
  generalize upd (upd H2 l (.lst ((srt ns).map V.str))) kp (.tup ((srt ns).map V.str))=H3 at s3 s03 hkp3 ⊢
  have hx3:=s03 _ _ hx
  refine ⟨_,rfl,x,C,dx,_,rfl,hx3,W.cl,W.nP,(by show 0 < 1000;decide),?_⟩
  have L3:=L.same s03
  have nax:a≠x:=ne_of L3.ha hx3 (by intro z;cases z)
  have nbx:b≠x:=ne_of L3.hb hx3 (by intro z;cases z)
  have nkx:kp≠x:=ne_of hkp3 hx3 (by intro z;cases z)
  have L4:Lists (upd H3 x (.ins C dx (putF "kept_places" (.ref kp) []))) a b ns ps ts:=⟨by rw [upd_ne nax];exact L3.ha,by rw [upd_ne nbx];exact L3.hb,L3.hT.mono fun t xs e=>by rw [upd_ne (ne_of e hx3 (by intro z;cases z))];exact e,L.good,L.ins,L.few⟩
  have b4:But x H (upd H3 x (.ins C dx (putF "kept_places" (.ref kp) []))):=fun c o e n=>by rw [upd_ne n];exact s03 _ _ e
  have hx4:=upd_same (H:=H3) (a:=x) (o:=.ins C dx (putF "kept_places" (.ref kp) []))
  have hkp4:(upd H3 x (.ins C dx (putF "kept_places" (.ref kp) []))) kp=some (.tup ((srt ns).map V.str)):=by rw [upd_ne nkx];exact hkp3
  generalize upd H3 x (.ins C dx (putF "kept_places" (.ref kp) []))=H4 at L4 b4 hx4 hkp4 ⊢
  have le:(ts.map V.ref).length=ps.length:=by rw [List.length_map,L.hT.len]
  refine ⟨_,rfl,b,rfl,⟨_,SqL.of L4.hb⟩,lc_list (K:=K) (xs:=ts.map V.ref) (fun i ys H5=>Same H4 H5/\∃ us:List Addr,ys=us.map V.ref/\us.length=i/\TiesAt H5 us (ps.take i)) ⟨Same.refl _,[],rfl,rfl,.nil⟩ ?_ ?_ ?_ ?_⟩
  ·rintro i ys H5 hi ⟨_,us,rfl,e,_⟩
   rw [List.length_map,e]
   rw [le] at hi
   exact Nat.le_trans hi (Nat.le_trans L.few (by decide))
  ·rintro i ys H5 _ ⟨s5,_⟩
   exact SqL.of (s5 _ _ L4.hb)
  ·rintro i y ys H5 R hy ⟨s5,us,rfl,e,hU⟩ kR
   rw [List.getElem?_map] at hy
   obtain ⟨t,et,rfl⟩:=Option.map_eq_some_iff.mp hy
   obtain ⟨p,ep,ht⟩:=L4.hT.get et
   refine ⟨t,_,rfl,SqT.of (s5 _ _ ht),rfl,_,_,rfl,_,_,rfl,rfl,?_⟩
   simp only [tYes,if_true]
   refine ⟨_,rfl,_,rfl,(by show 2<=sizeLine;decide),fun u hu=>?_⟩
   have e2:us.map V.ref++[V.ref u]=(us++[u]).map V.ref:=by simp
   refine kR _ _ ⟨s5.trans (same_upd hu),us++[u],e2,by simp [e],?_⟩
   rw [List.take_add_one,ep]
   exact (hU.same (same_upd hu)).snoc upd_same
  ·rintro ys H5 ⟨s5,us,rfl,e,hU⟩ D hD
   rw [le,List.take_of_length_le (Nat.le_refl _)] at hU
   refine ⟨D,_,rfl,.inl ⟨SqL.of upd_same,fun kt hkt=>?_⟩⟩
   have s6:Same H4 (upd (upd H5 D (.lst (us.map V.ref))) kt (.tup (us.map V.ref))):=s5.trans ((same_upd hD).trans (same_upd hkt))
   have hU6:=hU.same ((same_upd (o:=.lst (us.map V.ref)) hD).trans (same_upd (o:=.tup (us.map V.ref)) hkt))
   have hkt6:=upd_same (H:=upd H5 D (.lst (us.map V.ref))) (a:=kt) (o:=.tup (us.map V.ref))
   generalize upd (upd H5 D (.lst (us.map V.ref))) kt (.tup (us.map V.ref))=H6 at s6 hU6 hkt6 ⊢
   have hx6:=s6 _ _ hx4
   refine ⟨_,rfl,x,C,dx,_,rfl,hx6,W.cl,W.nT,(by show 1 < 1000;decide),?_⟩
   refine k _ ⟨dx,kp,kt,us,?_,?_,?_,?_⟩ fun c o e n=>?_
   ·rw [upd_same]
    show some (HO.ins C dx (putF "kept_ties" (.ref kt) (putF "kept_places" (.ref kp) [])))=_
    rfl
   ·rw [upd_ne (ne_of (s6 _ _ hkp4) hx6 (by intro z;cases z))];exact s6 _ _ hkp4
   ·rw [upd_ne (ne_of hkt6 hx6 (by intro z;cases z))];exact hkt6
   ·exact hU6.mono fun t xs e=>by rw [upd_ne (ne_of e hx6 (by intro z;cases z))];exact e
   ·rw [upd_ne n];exact s6 _ _ (b4 c o e n)
def spPl (C:Addr):Sp:=fun vs H Q _=>∃ (x:Addr) (ns:List Str) (ps:List (Str × Str)),vs=[.ref x]/\WebObj C H x ns ps/\∀ l,H l=none->Q (.ref l) (upd H l (.lst ((srt ns).map V.str)))
theorem scPl:FnScope ["self"] ["self"] (defScope sPlaces):=⟨rfl,rfl,rfl,by decide +kernel,rfl,by decide +kernel,by decide +kernel⟩
theorem ok_places {C f:Addr} {fd:FuncData} (F:Fun K "places" "Web.places" sPlaces f fd) (W:WC K mg C) (T:Glb mg):FnOk P w K mg base CX0 1 f fd ["self"] (spPl C):=by
 refine F.ok scPl (fun vs H Q E h=>?_) (fun cdv A outer s H vs Q E hr h=>?_)
 ·obtain ⟨x,ns,ps,rfl,_⟩:=h
  rfl
 ·obtain ⟨x,ns,ps,rfl,⟨dx,kp,kt,ts,h1,h2,h3,h4⟩,k⟩:=h
  refine ⟨_,pss_one (ps_ret (pe_callTy call_list_of (by rfl) T.list PyProof.Rows.boot_list (pa_cons (pe_fld (pv 0) rfl) pa_nil))),?_⟩
  exact ⟨_,rfl,x,C,dx,_,_,rfl,h1,W.cl,W.nP,wf_p kp kt,kp,_,rfl,.inr (SqT.of h2),k⟩
def spTs (C:Addr):Sp:=fun vs H Q _=>∃ (x:Addr) (ns:List Str) (ps:List (Str × Str)),vs=[.ref x]/\WebObj C H x ns ps/\∀ l us,H l=none->TiesAt H us ps->Q (.ref l) (upd H l (.lst (us.map V.ref)))
theorem scTs:FnScope ["self"] ["self"] (defScope sTies):=⟨rfl,rfl,rfl,by decide +kernel,rfl,by decide +kernel,by decide +kernel⟩
theorem ok_ties {C f:Addr} {fd:FuncData} (F:Fun K "ties" "Web.ties" sTies f fd) (W:WC K mg C) (T:Glb mg):FnOk P w K mg base CX0 1 f fd ["self"] (spTs C):=by
 refine F.ok scTs (fun vs H Q E h=>?_) (fun cdv A outer s H vs Q E hr h=>?_)
 ·obtain ⟨x,ns,ps,rfl,_⟩:=h
  rfl
 ·obtain ⟨x,ns,ps,rfl,⟨dx,kp,kt,ts,h1,h2,h3,h4⟩,k⟩:=h
  refine ⟨_,pss_one (ps_ret (pe_callTy call_list_of (by rfl) T.list PyProof.Rows.boot_list (pa_cons (pe_fld (pv 0) rfl) pa_nil))),?_⟩
  exact ⟨_,rfl,x,C,dx,_,_,rfl,h1,W.cl,W.nT,wf_t kp kt,kt,_,rfl,.inr (SqT.of h3),fun l hl=>k l ts hl h4⟩
structure Ex (K:PySem.W.Frag) (mg:Str->Option Value) (x:Str) (C:Addr):Prop where
 b:mg x=some (.ref C)
 bm:∃ Bn newId initId bm,PySem.W.excIn K C bm newId=true/\ExcBaseFacts Bn newId initId bm
end
end K22
namespace L2
open PySem PySem.Spec PyProof.Rows
abbrev one (c:Nat):Str:=⟨#[c]⟩
theorem glue_ones:∀ (cs:List Nat) (acc:Array Nat),((cs.map one).foldl (fun acc p=>acc++("" : Str).cps++p.cps) acc).toList=acc.toList++cs
 | [],acc=>by simp
 | c::cs,acc=>by
  have e:("" : Str).cps=#[]:=by decide +kernel
  rw [List.map_cons,List.foldl_cons,glue_ones cs,e]
  simp
theorem join_ones {cs:List Nat} (h:cs≠[]):(Txt.join "" (cs.map one)).cps.toList=cs:=by
 cases cs with
 | nil=>exact absurd rfl h
 | cons c r =>
  show ((r.map one).foldl (fun acc p=>acc++("" : Str).cps++p.cps) (one c).cps).toList=_
  rw [glue_ones]
  rfl
theorem atI_mem {α:Type} {xs:List α} {i:Int} {v:α} (h:atI xs i=some v):v∈xs:=by
 unfold atI at h
 obtain ⟨j,_,e⟩:=Option.bind_eq_some_iff.mp h
 exact List.mem_of_getElem? e
end L2
namespace K22
open PySem PySem.Spec PyProof.Rows L2
abbrev abc:Str:="abcdefghijklmnopqrstuvwxyz"
theorem abc_ok:∀ c∈abc.cps.toList,(lo c && hi c)=true:=by decide +kernel
theorem abc_nd:(abc.cps.toList.map one).Nodup:=by decide +kernel
theorem nm_one {c:Nat} (h:(lo c && hi c)=true):nm (one c)=true:=by
 show ((decide (1<=1) && decide (1<=8)) && ([c].map fun c=>lo c && hi c).all id)=true
 simp [h]
theorem nm_of {z:Str} {cs:List Nat} (e:z.cps.toList=cs) (h1:1<=cs.length) (h8:cs.length<=8) (h:∀ c∈cs,(lo c && hi c)=true):nm z=true:=by
 have l:z.length=cs.length:=by rw [<- e];exact Array.length_toList.symm
 unfold nm
 rw [l,decide_eq_true h1,decide_eq_true h8,e]
 simp only [Bool.and_self,Bool.true_and,List.all_map,List.all_eq_true]
 exact fun c hc=>h c hc
section
variable {P:Program} {w:World} {K:PySem.W.Frag} {mg:Str->Option Value} {base:Heap}
theorem Row.lst {H:Hp} {p:Addr} (h:Row H p):∃ xs,H p=some (.lst xs):=let ⟨a,b,e⟩:=h;⟨_,e⟩
theorem Row.upd_ne {H:Hp} {p q:Addr} {o:HO} (h:Row H p) (n:p≠q):Row (upd H q o) p:=let ⟨a,b,e⟩:=h;⟨a,b,by rw [L2.upd_ne n];exact e⟩
theorem But.upd_new {p q:Addr} {H H1:Hp} {o:HO} (a:But p H H1) (hq:H q=none):But p H (upd H1 q o):=fun c u e n=>by rw [L2.upd_ne (ne_of_none e hq)];exact a c u e n
end
abbrev sPot:Stmt:=top 39 -- _law_pot
abbrev sTake:Stmt:=top 40 -- _law_take
abbrev sWord:Stmt:=top 41 -- _law_word
abbrev sNames:Stmt:=top 42 -- _law_names
abbrev sLTie:Stmt:=top 43 -- _law_tie
theorem low {A:Around} {k:Nat} (n:Nat) (hr:Room k A) (h:n<=63:=by decide):A.units+n+1 < cLine:=by have:=hr.units;omega
theorem Same.upd_new {H H1:Hp} {q:Addr} {o:HO} (s:Same H H1) (hq:H q=none):Same H (upd H1 q o):=fun b u e=>by rw [L2.upd_ne (ne_of_none e hq)];exact s b u e
theorem Same.but {H H1 H2:Hp} {p:Addr} (s:Same H H1) (b:But p H1 H2) (hp:H p=none):Same H H2:=fun c u e=>b c u (s c u e) (ne_of_none e hp)
theorem But.none {p t:Addr} {H H':Hp} (b:But p H H') (ht:H' t=none) (n:t≠p):H t=none:=by
 cases e:H t with
 | none=>rfl
 | some o=>exact absurd (b _ _ e n) (by rw [ht];intro z;cases z)
section
variable {P:Program} {w:World} {K:PySem.W.Frag} {mg:Str->Option Value} {base:Heap}
def spPot:Sp:=fun vs H Q _=>∃ (a:Addr) (ns:List Int) (k:Nat),vs=[.ref a,.int k]/\SqL K H a (ns.map V.int)/\ns.length<=63/\∀ (p:Addr) (H':Hp),H p=none->Row H' p->Same H H'->Q (.ref p) H'
abbrev nPo:List Str:=["_law_script","_law_k","_law_cell"]
theorem scPo:FnScope nPo ["_law_script","_law_k"] (defScope sPot):=⟨rfl,rfl,rfl,by decide +kernel,rfl,by decide +kernel,by decide +kernel⟩
theorem row_end {H:Hp} {Q:VK} (k:∀ (p:Addr) (H':Hp),H p=none->Row H' p->Same H H'->Q (.ref p) H') (a b:Int) (p:Addr) (hp:H p=none):Q (.ref p) (upd H p (.lst [.int a,.int b])) :=
 k p _ hp ⟨a,b,upd_same⟩ fun c o e=>by rw [upd_ne (ne_of_none e hp)];exact e
theorem ok_pot {f:Addr} {fd:FuncData} (F:Fun K "_law_pot" "_law_pot" sPot f fd) (T:Glb mg) (ab:mg "abs" = none):FnOk P w K mg base CX0 1 f fd ["_law_script","_law_k"] (spPot (K:=K)):=by
 refine F.ok scPo (fun vs H Q E h=>?_) (fun cdv A outer s H vs Q E hr h=>?_)
 ·obtain ⟨a,ns,k,rfl,_⟩:=h
  rfl
 ·obtain ⟨a,ns,n,rfl,hS,hl,k⟩:=h
  refine ⟨_,pss_cons (ps_set (i:=2) scPo.nd rfl (Or.inl rfl) (pe_ifExp (pt_cmpR op_lt (pv 1) (pe_callB call_len_seq (by rfl) T.len PySem.boot_len (pa_cons (pv 0) pa_nil)) (nomark _)) (pe_ix ix_list (pv 0) (pv 1) (fun _ _=>rfl)) pe_int))
   (pss_one (ps_ret (pe_lst (pa_cons (pe_callB (call_max2 rfl) (by rfl) T.max boot_max (pa_cons pe_int (pa_cons (pe_op op_sub (pe_callB call_abs (by rfl) ab PyProof.Rows.boot_abs (pa_cons (pv 2) pa_nil)) (pe_op op_pow pe_int pe_int)) pa_nil)))
    (pa_cons (pe_op op_mod (pe_op op_add (pe_op op_add (pe_op op_mul (pe_op op_mod (pe_callB call_abs (by rfl) ab PyProof.Rows.boot_abs (pa_cons (pv 2) pa_nil)) pe_int) pe_int) (pe_op op_mul pe_int (pv 1))) pe_int) pe_int) pa_nil))))),?_⟩
  refine ⟨_,rfl,_,rfl,a,_,rfl,.inl hS,_,_,rfl,rfl,_,rfl,?_⟩
  refine ite2 (fun hlt=>?_) (fun hlt=>?_)
  ·have hlt':n < ns.length:=by simpa using hlt
   refine ⟨_,rfl,_,rfl,a,_,_,_,rfl,rfl,hS,atI_nat (j:=n) (v:=.int ns[n]) (by simp [hlt']),?_⟩
   refine ⟨_,rfl,_,rfl,_,_,rfl,rfl,⟨by decide,by decide,by decide⟩,_,_,rfl,rfl,_,_,rfl,?_⟩
   refine ⟨_,rfl,_,rfl,_,_,rfl,rfl,(by show (0:Int) < 2147483587;decide),_,_,rfl,rfl,.inr ⟨by decide,by decide⟩,_,rfl,_,_,rfl,rfl,.inl ⟨by decide,by decide⟩,_,_,rfl,rfl,_,_,rfl,rfl,_,_,rfl,rfl,(by show (0:Int) < 2147483629;decide),?_⟩
   exact ⟨(by show 2<=sizeLine;decide),row_end k _ _⟩
  ·refine ⟨_,rfl,_,rfl,_,_,rfl,rfl,⟨by decide,by decide,by decide⟩,_,_,rfl,rfl,_,_,rfl,?_⟩
   refine ⟨_,rfl,_,rfl,_,_,rfl,rfl,(by show (0:Int) < 2147483587;decide),_,_,rfl,rfl,.inr ⟨by decide,by decide⟩,_,rfl,_,_,rfl,rfl,.inl ⟨by decide,by decide⟩,_,_,rfl,rfl,_,_,rfl,rfl,_,_,rfl,rfl,(by show (0:Int) < 2147483629;decide),?_⟩
   exact ⟨(by show 2<=sizeLine;decide),row_end k _ _⟩
abbrev nTk:List Str:=["_law_pot_here","_law_many","_law_digit"]
theorem scTk:FnScope nTk ["_law_pot_here","_law_many"] (defScope sTake):=⟨rfl,rfl,rfl,by decide +kernel,rfl,by decide +kernel,by decide +kernel⟩
theorem ok_take {f:Addr} {fd:FuncData} (F:Fun K "_law_take" "_law_take" sTake f fd) (T:Glb mg):FnOk P w K mg base CX0 1 f fd ["_law_pot_here","_law_many"] spDraw:=by
 refine F.ok scTk (fun vs H Q E h=>?_) (fun cdv A outer s H vs Q E hr h=>?_)
 ·obtain ⟨p,m,rfl,_⟩:=h
  rfl
 ·obtain ⟨p,m,rfl,⟨a,b,hp⟩,m0,m1,k⟩:=h
  refine ⟨_,pss_cons (ps_if (pt_cmpR op_gt (pe_ix ix_list (pv 0) pe_int (fun _ _=>rfl)) pe_int (nomark _))
   (pss_cons (ps_asg (pe_callB call_divmod' (by rfl) T.divmod PyProof.Rows.boot_divmod (pa_cons (pe_ix ix_list (pv 0) pe_int (fun _ _=>rfl)) (pa_cons (pv 1) pa_nil)))
    (pg_tup rfl (pgs_cons (pg_sub (pv 0) pe_int set_list) (pgs_cons (pg_name (i:=2) scTk.nd rfl (Or.inl rfl)) pgs_nil)))) (pss_one (ps_ret (pv 2)))) pss_nil)
   (pss_cons (ps_asg (pe_op op_mod (pe_op op_add (pe_op op_mul (pe_ix ix_list (pv 0) pe_int (fun _ _=>rfl)) pe_int) pe_int) pe_int) (pg_sub (pv 0) pe_int set_list))
   (pss_one (ps_ret (pe_op op_mod (pe_op op_fdiv (pe_op op_mod (pe_op op_mul (pe_ix ix_list (pv 0) pe_int (fun _ _=>rfl)) (pe_ix ix_list (pv 0) pe_int (fun _ _=>rfl))) pe_int) pe_int) (pv 1))))),?_⟩
  refine ⟨_,rfl,p,_,_,_,rfl,rfl,SqL.of hp,atI_nat (j:=0) rfl,?_⟩
  refine ⟨_,_,rfl,rfl,_,rfl,?_⟩
  refine ite2 (fun ha=>?_) (fun ha=>?_)
  ·refine ⟨_,rfl,p,_,_,_,rfl,rfl,SqL.of hp,atI_nat (j:=0) rfl,_,rfl,a,m,rfl,m0,m1,fun t ht=>?_⟩
   have npt:p≠t:=ne_of_none hp ht
   refine ⟨t,_,rfl,SqT.of upd_same,rfl,_,_,rfl,_,rfl,p,_,_,0,rfl,rfl,(by rw [upd_ne npt];exact hp),rfl,?_⟩
   refine ⟨_,_,rfl,rfl,_,rfl,?_⟩
   refine k _ _ (Int.emod_nonneg _ (by omega)) (Int.emod_lt_of_pos _ m0) ⟨_,_,upd_same⟩ fun c o e hc=>?_
   rw [upd_ne hc,upd_ne (ne_of_none e ht)]
   exact e
  ·refine ⟨_,rfl,p,_,_,_,rfl,rfl,SqL.of hp,atI_nat (j:=1) rfl,_,_,rfl,rfl,.inr ⟨by decide,by decide⟩,_,_,rfl,rfl,_,_,rfl,rfl,(by show (0:Int) < 2147483629;decide),?_⟩
   refine ⟨_,rfl,p,_,_,1,rfl,rfl,hp,rfl,?_⟩
   have c1:0<=(b * 40487+12289) % 2147483629:=Int.emod_nonneg _ (by decide)
   have c2:(b * 40487+12289) % 2147483629 < 2147483629:=Int.emod_lt_of_pos _ (by decide)
   generalize (b * 40487+12289) % 2147483629=c at c1 c2 ⊢
   refine ⟨_,rfl,p,_,_,_,rfl,rfl,SqL.of upd_same,atI_nat (j:=1) rfl,_,rfl,p,_,_,_,rfl,rfl,SqL.of upd_same,atI_nat (j:=1) rfl,_,_,rfl,rfl,.inl ⟨by omega,by omega⟩,_,_,rfl,rfl,(by show (0:Int) < 2147483563;decide),_,_,rfl,rfl,⟨by decide,by decide⟩,_,rfl,_,_,rfl,rfl,m0,?_⟩
   refine k _ _ (Int.emod_nonneg _ (by omega)) (Int.emod_lt_of_pos _ m0) ⟨_,_,upd_same⟩ fun c o e hc=>?_
   rw [upd_ne hc]
   exact e
def spWord:Sp:=fun vs H Q _=>∃ (p:Addr),vs=[.ref p]/\Row H p/\∀ (z:Str) (H':Hp),nm z=true->Row H' p->But p H H'->Q (.str z) H'
abbrev nWd:List Str:=["_law_pot_here","_law_long"]
theorem scWd:FnScope nWd ["_law_pot_here"] (defScope sWord):=⟨rfl,rfl,rfl,by decide +kernel,rfl,by decide +kernel,by decide +kernel⟩
theorem ok_word {f fD:Addr} {fd fdD:FuncData} (F:Fun K "_law_word" "_law_word" sWord f fd) (D:Df K mg "_law_take" sTake ["_law_pot_here","_law_many"] fD fdD) (T:Glb mg):FnOk P w K mg base CX0 2 f fd ["_law_pot_here"] spWord:=by
 have G:FnOk P w K mg base CX0 1 fD fdD ["_law_pot_here","_law_many"] spDraw:=ok_take D.fn T
 refine F.ok scWd (fun vs H Q E h=>?_) (fun cdv A outer s H vs Q E hr h=>?_)
 ·obtain ⟨p,rfl,_⟩:=h
  rfl
 ·obtain ⟨p,rfl,hp,k⟩:=h
  refine ⟨_,pss_cons (ps_set (i:=1) scWd.nd rfl (Or.inl rfl) (pe_op op_add pe_int (pe_call G hr rfl D.mgf D.fn.kp D.b .nil pass0 (pa_cons (pv 0) (pa_cons
     (pe_ix ix_list (pe_lst (pa_cons pe_int (pa_cons pe_int (pa_cons pe_int pa_nil)))) (pe_call G hr rfl D.mgf D.fn.kp D.b .nil pass0 (pa_cons (pv 0) (pa_cons pe_int pa_nil))) (fun _ _=>rfl)) pa_nil)))))
   (pss_one (ps_ret (pe_bm PySem.F.plainAttrs_str PySem.F.slot_str_join PySem.F.type_str_join mt_join pe_str (pa_cons
    (pe_lc ["_law_k"] [0] rfl (compSc (osc:=(defScope sWord).names) (N:=nWd) rfl rfl (by decide +kernel)) (gk_name (by decide))
     (pi_range1 rfl T.range (pa_cons (pv 1) pa_nil))
     (fun _ _ _=>pg_name (i:=0) (show (["_law_k","_law_pot_here"]:List Str).Nodup by decide +kernel) rfl (Or.inl rfl)) (fun _ _ _=>pifs_nil)
     (fun _ _ _=>pe_ix ix_str pe_str (pe_call G hr rfl D.mgf D.fn.kp D.b .nil pass0 (pa_cons (pv 1) (pa_cons pe_int pa_nil))) (fun _ _=>rfl))) pa_nil)))),?_⟩
  refine ⟨_,rfl,(by show 3<=sizeLine;decide),fun l0 hl0=>?_⟩
  have npl:p≠l0:=ne_of_none hp.lst.choose_spec hl0
  have s0:=same_upd (o:=.lst [.int 1,.int 2,.int 8]) hl0
  refine ⟨_,rfl,p,3,rfl,hp.upd_ne npl,by decide,by decide,fun d0 H0 d0a d0b hp0 b0=>?_⟩
  have b00:But p H H0:=fun c o e n=>b0 c o (s0 c o e) n
  have hl:=b0 _ _ upd_same (Ne.symm npl)
  obtain ⟨m,em,m0,m8⟩:∃ m:Int,atI [V.int 1,V.int 2,V.int 8] d0=some (.int m)/\0 < m/\m<=8:=by
   have:d0=0\/d0=1\/d0=2:=by omega
   rcases this with rfl | rfl | rfl
   ·exact ⟨1,rfl,by decide,by decide⟩
   ·exact ⟨2,rfl,by decide,by decide⟩
   ·exact ⟨8,rfl,by decide,by decide⟩
  refine ⟨l0,_,_,_,rfl,rfl,SqL.of hl,em,p,m,rfl,hp0,m0,by omega,fun d1 H1 d1a d1b hp1 b1=>?_⟩
  have b01:=b00.trans b1
  refine ⟨_,_,rfl,rfl,rfl,_,rfl,_,rfl,by omega,by omega,lc_range (fun i ys H2=>Row H2 p/\But p H H2/\∃ cs:List Nat,ys=(cs.map one).map V.str/\cs.length=i/\∀ c∈cs,(lo c && hi c)=true) ⟨hp1,b01,[],rfl,rfl,fun _ h=>nomatch h⟩ ?_ ?_ ?_⟩
  ·rintro i ys H2 hi ⟨_,_,cs,rfl,hl,_⟩
   rw [List.length_map,List.length_map,hl]
   exact Nat.le_trans hi (Nat.le_trans (show (1+d1).toNat<=8 by omega) (by decide))
  ·rintro i ys H2 R hi ⟨hp2,b2,cs,rfl,hl,h1⟩ kR
   simp only [tYes,gName,if_true]
   refine ⟨_,rfl,p,26,rfl,hp2,by decide,by decide,fun d2 H3 d2a d2b hp3 b3=>?_⟩
   obtain ⟨c,hc⟩:=lit_ix (z:=abc) d2a (by rw [letters26];exact d2b)
   refine ⟨_,_,c,rfl,rfl,by decide +kernel,hc,kR _ _ ⟨hp3,b2.trans b3,cs++[c],by simp,by simp [hl],fun y hy=>?_⟩⟩
   rcases List.mem_append.mp hy with q | q
   ·exact h1 y q
   ·rw [List.mem_singleton.mp q];exact abc_ok c (atI_mem hc)
  ·rintro ys H2 ⟨hp2,b2,cs,rfl,hl,h1⟩ D0 hD0
   obtain ⟨b3,hp3⟩:=b2.laid (o:=.lst ((cs.map one).map V.str)) hD0 hp2
   have l1:1<=cs.length:=by rw [hl];omega
   have l8:cs.length<=8:=by rw [hl];omega
   have hsum:((cs.map one).map (·.length)).sum+(cs.map one).length * ("" : Str).length<=8:=by
    have e1:((cs.map one).map (·.length)).sum=cs.length:=by
     rw [List.map_map]
     clear hl h1 l1 l8 b3 hp3
     induction cs with
     | nil=>rfl
     | cons c r ih=>rw [List.map_cons,List.sum_cons,ih];show 1+_=_;simp;omega
    have:("" : Str).length=0:=by decide +kernel
    rw [e1,this];omega
   have hn:nm (Txt.join "" (cs.map one))=true:=nm_of (join_ones (by intro e;rw [e] at l1;simp at l1)) l1 l8 h1
   refine ⟨"",D0,cs.map one,rfl,rfl,SqL.of upd_same,Nat.le_trans hsum (by decide),?_⟩
   exact k _ _ hn hp3 b3
def spNames:Sp:=fun vs H Q _=>∃ (p:Addr) (m:Int),vs=[.ref p,.int m]/\0 < m/\m<=12/\Row H p/\∀ (q:Addr) (ns:List Str) (H':Hp),GoodP ns->H q=none->H' q=some (.lst (ns.map V.str))->Row H' p->But p H H'->Q (.ref q) H'
abbrev nNa:List Str:=["_law_pot_here","_law_most","_law_found","_law_k","_law_word_here"]
theorem scNa:FnScope nNa ["_law_pot_here","_law_most"] (defScope sNames):=⟨rfl,rfl,rfl,by decide +kernel,rfl,by decide +kernel,by decide +kernel⟩
def NaI (p q:Addr) (m:Int) (H:Hp) (i:Nat) (σ:L2.St) (H2:Hp):Prop:=∃ (v3 v4:Option V) (ns:List Str),σ=[some (V.ref p),some (V.int m),some (V.ref q),v3,v4]/\Row H2 p/\But p H H2/\H2 q=some (.lst (ns.map V.str))/\ns.length<=i/\(0 < i->0 < ns.length)/\(∀ z∈ns,nm z=true)/\ns.Nodup
theorem ok_names {f fD fW:Addr} {fd fdD fdW:FuncData} (F:Fun K "_law_names" "_law_names" sNames f fd) (D:Df K mg "_law_take" sTake ["_law_pot_here","_law_many"] fD fdD) (DW:Df K mg "_law_word" sWord ["_law_pot_here"] fW fdW) (T:Glb mg):FnOk P w K mg base CX0 3 f fd ["_law_pot_here","_law_most"] spNames:=by
 have G:FnOk P w K mg base CX0 1 fD fdD ["_law_pot_here","_law_many"] spDraw:=ok_take D.fn T
 have GW:FnOk P w K mg base CX0 2 fW fdW ["_law_pot_here"] spWord:=ok_word DW.fn D T
 refine F.ok scNa (fun vs H Q E h=>?_) (fun cdv A outer s H vs Q E hr h=>?_)
 ·obtain ⟨p,m,rfl,_⟩:=h
  rfl
 ·obtain ⟨p,m,rfl,m0,m12,hp,k⟩:=h
  have h1:=hr.mono (j:=1) (by decide)
  refine ⟨_,pss_cons (ps_set (i:=2) scNa.nd rfl (Or.inl rfl) (pe_lst pa_nil))
   (pss_cons (ps_for PassesOwn.never rfl (pi_range1 rfl T.range (pa_cons (pe_op op_add pe_int (pe_call G h1 rfl D.mgf D.fn.kp D.b .nil pass0 (pa_cons (pv 0) (pa_cons (pv 1) pa_nil)))) pa_nil)) (pg_name (i:=3) scNa.nd rfl (Or.inl rfl))
    (pss_cons (ps_set (i:=4) scNa.nd rfl (Or.inl rfl) (pe_call GW hr rfl DW.mgf DW.fn.kp DW.b .nil pass0 (pa_cons (pv 0) pa_nil)))
    (pss_one (ps_if (pt_cmpR op_notIn_seq (pv 4) (pv 2) rfl) (pss_one (ps_expr (pe_bm PySem.F.plainAttrs_list PySem.F.slot_list_append PySem.F.type_list_append mt_append (pv 2) (pa_cons (pv 4) pa_nil)))) pss_nil))))
   (pss_one (ps_ret (pv 2)))),?_⟩
  refine ⟨(by decide),fun q hq=>?_⟩
  have npq:p≠q:=ne_of_none hp.lst.choose_spec hq
  refine ⟨_,rfl,_,rfl,p,m,rfl,hp.upd_ne npq,m0,by omega,fun d1 H1 d1a d1b hp1 b1=>?_⟩
  refine ⟨_,_,rfl,rfl,_,rfl,by omega,by omega,?_⟩
  have b1':But p H H1:=fun c o e n=>b1 c o (by rw [L2.upd_ne (ne_of_none e hq)];exact e) n
  refine for_range (NaI p q m H) ⟨_,_,[],rfl,hp1,b1',b1 _ _ upd_same (Ne.symm npq),Nat.le_refl _,(fun z=>absurd z (by decide)),(fun _ z=>nomatch z),List.nodup_nil⟩ ?_ ?_
  ·rintro i σ H2 hi ⟨v3,v4,ns,rfl,hp2,b2,hq2,hl,hl0,hn,nd⟩
   refine ⟨_,rfl,p,rfl,hp2,fun z H3 hz hp3 b3=>?_⟩
   have hq3:=b3 _ _ hq2 (Ne.symm npq)
   refine ⟨_,rfl,_,rfl,q,_,rfl,.inl (SqL.of hq3),rfl,flat_strs ns,_,rfl,?_⟩
   simp only [if_true]
   rw [inV_str]
   by_cases hin:z∈ns
   ·rw [decide_eq_true hin]
    exact iteF ⟨_,_,ns,rfl,hp3,b2.trans b3,hq3,Nat.le_succ_of_le hl,fun _=>List.length_pos_of_mem hin,hn,nd⟩
   ·rw [decide_eq_false hin]
    refine iteT ⟨_,rfl,.inl ⟨rfl,_,SqL.of hq3⟩,_,rfl,q,_,_,rfl,rfl,hq3,(by rw [List.length_map];exact small1000 (by omega)),?_⟩
    refine ⟨_,_,ns++[z],rfl,hp3.upd_ne npq,(b2.trans b3).upd_new hq,?_,by simp;omega,(fun _=>by simp),?_,nd_snoc nd hin⟩
    ·rw [upd_same];simp
    ·intro y hy
     rcases List.mem_append.mp hy with h | h
     ·exact hn y h
     ·rw [List.mem_singleton.mp h];exact hz
  ·rintro σ H2 ⟨v3,v4,ns,rfl,hp2,b2,hq2,hl,hl0,hn,nd⟩
   exact ⟨_,rfl,k q ns H2 ⟨hl0 (by omega),by omega,hn,nd⟩ hq hq2 hp2 b2⟩
def spLTie:Sp:=fun vs H Q _=>∃ (p q:Addr) (m:Int) (ns:List Str),vs=[.ref p,.ref q,.int m]/\Row H p/\q≠p/\H q=some (.lst (ns.map V.str))/\GoodP ns /\
 ∀ (t:Addr) (x y:Str) (H':Hp),x∈ns->y∈ns->H t=none->H' t=some (.tup [.str x,.str y])->Row H' p->But p H H'->Q (.ref t) H'
abbrev nLt:List Str:=["_law_pot_here","_law_names_here","_law_sort","_law_i","_law_j"]
theorem scLt:FnScope nLt ["_law_pot_here","_law_names_here","_law_sort"] (defScope sLTie):=⟨rfl,rfl,rfl,by decide +kernel,rfl,by decide +kernel,by decide +kernel⟩
theorem ok_ltie {f fD:Addr} {fd fdD:FuncData} (F:Fun K "_law_tie" "_law_tie" sLTie f fd) (D:Df K mg "_law_take" sTake ["_law_pot_here","_law_many"] fD fdD) (T:Glb mg):FnOk P w K mg base CX0 2 f fd ["_law_pot_here","_law_names_here","_law_sort"] spLTie:=by
 have G:FnOk P w K mg base CX0 1 fD fdD ["_law_pot_here","_law_many"] spDraw:=ok_take D.fn T
 refine F.ok scLt (fun vs H Q E h=>?_) (fun cdv A outer s H vs Q E hr h=>?_)
 ·obtain ⟨p,q,m,ns,rfl,_⟩:=h
  rfl
 ·obtain ⟨p,q,m,ns,rfl,hp,nqp,hq,good,k⟩:=h
  refine ⟨_,pss_cons (ps_par rfl scLt.nd rfl rfl (i:=3) (j:=4) (by decide) rfl rfl (pa_cons (pe_call G hr rfl D.mgf D.fn.kp D.b .nil pass0 (pa_cons (pv 0) (pa_cons (pe_callB call_len_seq (by rfl) T.len PySem.boot_len (pa_cons (pv 1) pa_nil)) pa_nil)))
     (pa_cons (pe_call G hr rfl D.mgf D.fn.kp D.b .nil pass0 (pa_cons (pv 0) (pa_cons (pe_callB call_len_seq (by rfl) T.len PySem.boot_len (pa_cons (pv 1) pa_nil)) pa_nil))) pa_nil)) rfl)
   (pss_cons (ps_if (PW.pt (pw_or (pt_cmpR op_eq (pv 2) pe_int (nomark _)) (pw_or1 (PW.pt (pw_and (pt_cmpR op_eq (pv 2) pe_int (nomark _)) (pw_and1 (pt_cmpR op_gt (pe_call G hr rfl D.mgf D.fn.kp D.b .nil pass0 (pa_cons (pv 0) (pa_cons pe_int pa_nil))) pe_int (nomark _))))))))
     (pss_one (ps_par rfl scLt.nd rfl rfl (i:=3) (j:=4) (by decide) rfl rfl (pa_cons (pe_callB (call_min2 rfl) (by rfl) T.min boot_min (pa_cons (pv 3) (pa_cons (pv 4) pa_nil))) (pa_cons (pe_callB (call_max2 rfl) (by rfl) T.max boot_max (pa_cons (pv 3) (pa_cons (pv 4) pa_nil))) pa_nil)) rfl)) pss_nil)
   (pss_one (ps_ret (pe_tup (pa_cons (pe_ix ix_list (pv 1) (pv 3) (fun _ _=>rfl)) (pa_cons (pe_ix ix_list (pv 1) (pv 4) (fun _ _=>rfl)) pa_nil)))))),?_⟩
  have hlen:((ns.map V.str).length:Int)=ns.length:=by rw [List.length_map]
  have lpos:(0:Int) < ns.length:=by have:=good.one;omega
  have lbig:(ns.length:Int) < 2 ^ 64:=by have:=good.few;omega
  refine ⟨_,rfl,_,rfl,q,_,rfl,.inl (SqL.of hq),p,_,rfl,hp,by rw [hlen];exact lpos,by rw [hlen];exact lbig,fun i H1 i1 i2 hp1 b1=>?_⟩
  have hq1:=b1 _ _ hq nqp
  refine ⟨_,rfl,_,rfl,q,_,rfl,.inl (SqL.of hq1),p,_,rfl,hp1,by rw [hlen];exact lpos,by rw [hlen];exact lbig,fun j H2 j1 j2 hp2 b2=>?_⟩
  rw [hlen] at i2 j2
  refine ⟨_,_,rfl,?_⟩
  have fin:∀ (x y:Int) (H8:Hp),0<=x->x < ns.length->0<=y->y < ns.length->Row H8 p->But p H H8 ->
    ∀ D0:Ends,D0.rt=Q->tRet (tTup (tCons (tOp (rIxL K) (tVar 1) (tVar 3)) (tCons (tOp (rIxL K) (tVar 1) (tVar 4)) tNil))) D0 [some (V.ref p),some (V.ref q),some (V.int m),some (V.int x),some (V.int y)] H8:=by
   intro x y H8 x1 x2 y1 y2 hp8 b8 D0 hD
   obtain ⟨a,rfl⟩:=Int.eq_ofNat_of_zero_le x1
   obtain ⟨b,rfl⟩:=Int.eq_ofNat_of_zero_le y1
   have ha:a < ns.length:=by omega
   have hb:b < ns.length:=by omega
   have hq8:=b8 _ _ hq nqp
   refine ⟨_,rfl,_,rfl,q,_,_,_,rfl,rfl,SqL.of hq8,atI_nat (j:=a) (v:=.str ns[a]) (by simp [ha]),_,rfl,_,rfl,q,_,_,_,rfl,rfl,SqL.of hq8,atI_nat (j:=b) (v:=.str ns[b]) (by simp [hb]),(by show 2<=sizeLine;decide),fun t ht=>?_⟩
   rw [hD]
   have npt:p≠t:=ne_of_none hp8.lst.choose_spec ht
   have Ht:H t=none:=b8.none ht (Ne.symm npt)
   exact k t _ _ _ (List.getElem_mem ha) (List.getElem_mem hb) Ht upd_same (hp8.upd_ne npt) (b8.upd_new Ht)
  have b02:=b1.trans b2
  have two:∀ (H8:Hp),Row H8 p->But p H H8->∀ D0:Ends,D0.rt=Q->_:=fun H8 r8 b8 D0 hD=>fin (if j < i then j else i) (if j > i then j else i) H8 (by split<;>omega) (by split<;>omega) (by split<;>omega) (by split<;>omega) r8 b8 D0 hD
  refine ⟨_,rfl,rfl,_,rfl,?_⟩
  refine ite2 (fun _=>?_) (fun _=>?_)
  ·exact ⟨_,rfl,_,rfl,_,_,rfl,_,rfl,_,rfl,_,_,rfl,_,_,rfl,two H2 hp2 b02 _ rfl⟩
  ·refine ⟨_,rfl,rfl,_,rfl,?_⟩
   refine ite2 (fun _=>?_) (fun _=>?_)
   ·refine ⟨_,rfl,p,9,rfl,hp2,by decide,by decide,fun d H3 _ _ hp3 b3=>?_⟩
    refine ⟨_,_,rfl,rfl,_,rfl,?_⟩
    refine ite2 (fun _=>?_) (fun _=>?_)
    ·exact ⟨_,rfl,_,rfl,_,_,rfl,_,rfl,_,rfl,_,_,rfl,_,_,rfl,two H3 hp3 (b02.trans b3) _ rfl⟩
    ·exact fin i j H3 i1 i2 j1 j2 hp3 (b02.trans b3) _ rfl
   ·exact fin i j H2 i1 i2 j1 j2 hp2 b02 _ rfl
end
end K22
namespace L2
open PySem PySem.Spec PyProof.Rows
theorem strs_all:∀ {us:List Value} {zs:List Str},us.length=zs.length->(∀ (j:Nat) (u:Value),us[j]?=some u->∃ z t,zs[j]?=some z/\u=.str z t)->StrsAre us zs
 | [],[],_,_=>.nil
 | [],_::_,h,_=>by simp at h
 | _::_,[],h,_=>by simp at h
 | u::us,z::zs,h,k=>by
  obtain ⟨z',t,e1,e2⟩:=k 0 u rfl
  cases e1
  subst e2
  exact .cons z t (strs_all (by simpa using h) fun j w e=>by simpa using k (j+1) w (by simpa using e))
section
variable {prog:Program} {w:World} {A:Around} {E:Value->Shared->Prop} {s:Shared}
theorem sorts_new {h:Heap} {tk:Nat} {us:List Value} {zs:List Str} {Q:Value->Shared->Prop} (hz:StrsAre us zs) (few:us.length < 64)
  (q:∀ (out:List Value) (n:Nat) (h2:Heap),StrsAre out (srt zs)->(∀ b o,h.get? b=some o->h2.get? b=some o)->h2.get? h.objs.size=some { cls:=.type "list",data:=.seq out.toArray n }->Q (.ref h.objs.size) { s with heap:=h2,toks:=tk }) :
  wpAny (model prog w) A (call (.builtin "list.sort") [.ref h.objs.size]) (fun _ s'=>Q (.ref h.objs.size) s') E { s with heap:=h.push { cls:=.type "list",data:=.seq us.toArray },toks:=tk }:=by
 have at0:(h.push { cls:=.type "list",data:=.seq us.toArray }).get? h.objs.size=some (seqObj "list" us.toArray 0):=Heap.get?_push_size _ rfl
 refine wpAny_call_entry PySem.F.slot_list_sort ⟨_,at0,rfl⟩ PySem.F.entry_list_sort ?_ (args_list_sort _)
 refine list_sort_treeK strKind_oneLt at0 hz.keysOf (fun a b r e=>keyKind_strs (by rw [<- e];exact hz)) few fun st p1 p2=>⟨_,rfl,?_⟩
 obtain ⟨ss,c1,c2,c3⟩:=sorted_out_str hz p1 p2
 have e:=srt_of c2 (sorted_pw ss c3)
 subst e
 obtain ⟨n,hn⟩:=sortedHeap_at (out:=(arrOf st).map (·.2)) at0
 refine q _ n _ c1 (fun b o eb=>?_) (by rw [hn])
 have lt:b < h.objs.size:=Heap.lt_size eb
 rw [sortedHeap_old (Nat.ne_of_lt lt) (by rw [Heap.size_push];exact Nat.lt_succ_of_lt lt)]
 exact Heap.get?_push_of_some _ eb
end
theorem Inv.laidN {X:Cx} {pins:List (Addr × Obj)} {σ:St} {H:Hp} {s:Shared} {h':Heap} {a:Addr} {o:HO} {t':Nat} (I:Inv X pins σ H s) (k:∀ b u,s.heap.get? b=some u->h'.get? b=some u) (hp:s.heap.get? a=none) (hn:H a=none) (new:ObjOk X.prog X.w (upd H a o) h' a o) :
  Inv X pins σ (upd H a o) { s with heap:=h',toks:=t' }:=by
 refine I.un ⟨fun b u q _ _ _=>k b u q,fun b u q _ _ _=>⟨u.slots,k b u q⟩,fun b u q n _=>?_,fun b u q _=>⟨u,k b u q⟩,fun b xs q=>?_,fun b u xs q=>?_,fun b ps q=>⟨#[],?_⟩⟩ fun b u e=>?_
 ·rw [upd_ne (fun z=>by rw [z,hp] at q;cases q)];exact n
 ·rw [upd_ne (ne_of_none q hn)];exact q
 ·rw [upd_ne (ne_of_none q hn)];exact q
 ·rw [upd_ne (ne_of_none q hn),q];simp
 ·by_cases hb:b=a
  ·subst hb;rw [upd_same] at e;cases e;exact new
  ·rw [upd_ne hb] at e
   refine (I.hok b u e).stay (fun c v _ q=>k c v q) (fun c q=>?_) fun c xs q=>?_
   ·rw [upd_ne (ne_of_none q hn)];exact q
   ·rw [upd_ne (ne_of_none q hn)];exact q
def KTxt (kvs:List (Key × V)) (zs:List Str):Prop:=kvs.map (·.1)=zs.map Sum.inr
section
variable {X:Cx}
theorem call_sorted_dk (hc:X.calm=true):CallR X (.builtin "sorted") (fun xs H Q=>∃ (p:Addr) (kvs:List (Key × V)) (zs:List Str),xs=[.ref p]/\H p=some (.dK kvs)/\KTxt kvs zs/\zs.length < 64/\∀ l,H l=none->Q (.ref l) (upd H l (.lst ((srt zs).map V.str)))):=by
 intro pins s σ H xs us Q I r h
 obtain ⟨p,kvs,zs,rfl,hp,hk,few,q⟩:=h
 obtain ⟨u,rfl,rx⟩:=vals1 r
 cases rx
 obtain ⟨z,lo,vs,rel,dd⟩:=dk_of I.hok hp
 obtain ⟨ep,da⟩:=dd.dictAt
 have hl:vs.length=zs.length:=by rw [<- rel.length,<- List.length_map (f:=(·.1)),hk,List.length_map]
 refine Calls.call_function_entry kind_sorted plain_sorted entry_sorted (args_sorted1 _) ?_
 unfold Builtin.«sorted»
 apply wpAny_bind (m:=checkCount "sorted" 1 1 _)
 apply wpAny_pure
 apply wpAny_bind
 refine PySem.W.kdu_collect (PySem.W.kdl_dict (knd:=mixKind X.prog X.w) (kvs:=vs) (ep:=ep) lo) (A:=X.A.in1) (by exact I.ok.hd hc) da (by rw [hl];exact Nat.le_trans (Nat.le_of_lt few) (by decide)) fun h1 tk acc keep items=>?_
 have la:acc.toList.length=zs.length:=by rw [Array.length_toList,items.1,hl]
 have txt:StrsAre acc.toList zs:=strs_all la fun j u e=>by
  obtain ⟨k,x,e1,e2⟩:=items.2 j u (by rw [<- Array.getElem?_toList];exact e)
  have e3:(vs.map (·.1))[j]?=some k:=by rw [List.getElem?_map,e1];rfl
  rw [<- rel.keys,hk,List.getElem?_map] at e3
  obtain ⟨z',e4,rfl⟩:=Option.map_eq_some_iff.mp e3
  have e2':keyIs (Sum.inr z') u=true:=e2
  obtain ⟨i,t,q1,q2⟩ | ⟨y,t,q1,q2⟩:=keyIs_shape e2'
  ·cases q1
  ·cases q1
   exact ⟨z',t,e4,q2⟩
 apply wpAny_bind
 refine wpAny_newList ?_ (by rw [la];exact Nat.le_trans (Nat.le_of_lt few) (by decide))
 apply wpAny_bind
 apply wpAny_holding
 refine wpAny_mono (sorts_new (prog:=X.prog) (w:=X.w) (s:=s) (h:=h1) (tk:=tk) (Q:=EP X pins σ Q) txt (by rw [la];exact few) fun out n h2 o1 o2 o3=>?_) (fun _ _ z=>wpAny_pure ⟨_,rfl,z⟩) fun _ _ z=>z
 have no:s.heap.get? h1.objs.size=none:=by
  cases e:s.heap.get? h1.objs.size with
  | none=>rfl
  | some o=>exact absurd (Heap.lt_size (keep _ _ e)) (Nat.lt_irrefl _)
 have noH:H h1.objs.size=none:=by
  cases e:H h1.objs.size with
  | none=>rfl
  | some o =>
   obtain ⟨u,eu⟩:=(I.hok _ _ e).there
   rw [no] at eu;cases eu
 refine ⟨.ref h1.objs.size,_,I.laidN (t':=tk) (o:=.lst ((srt zs).map V.str)) (fun b o e=>o2 _ _ (keep _ _ e)) no noH ?_,rfl,q _ noH⟩
 refine ⟨by rw [List.length_map,srt_len];exact Nat.le_trans (Nat.le_of_lt few) (by decide),out,n,of_strs o1,o3⟩
end
def eqVs:List V->List V->Bool
 | [],[]=>true
 | x::xs,y::ys=>eqV x y && eqVs xs ys
 | _,_=>false
theorem eqVs_len:∀ {xs ys:List V},xs.length≠ys.length->eqVs xs ys=false
 | [],[],h=>absurd rfl h
 | [],_::_,_=>rfl
 | _::_,[],_=>rfl
 | x::xs,y::ys,h=>by
  unfold eqVs
  rw [eqVs_len (by simpa using h),Bool.and_false]
theorem eqVs_all:∀ {xs ys:List V},xs.length=ys.length->eqVs xs ys=(List.range xs.length).all fun j=>eqV (xs.getD j .non) (ys.getD j .non)
 | [],[],_=>rfl
 | [],_::_,h=>by simp at h
 | _::_,[],h=>by simp at h
 | x::xs,y::ys,h=>by
  unfold eqVs
  rw [eqVs_all (by simpa using h),List.length_cons,List.range_succ_eq_map,List.all_cons,List.all_map]
  rfl
section
variable {X:Cx} {pins:List (Addr × Obj)} {σ:St} {H:Hp} {s:Shared}
theorem eq_items {xs ys:List V} {A:Around} (fx:xs.all flatV=true) (fy:ys.all flatV=true) {is js:List Value} (ri:Vals xs is) (rj:Vals ys js) :
  ∀ j (h1:j < is.toArray.size) (h2:j < js.toArray.size),SeqAt.EqAt A s is.toArray[j] js.toArray[j] (eqV (xs.getD j .non) (ys.getD j .non)):=fun j h1 h2=>by
 have b1:j < xs.length:=by rw [ri.length];simpa using h1
 have b2:j < ys.length:=by rw [rj.length];simpa using h2
 obtain ⟨u',e1,r1⟩:=ri.get (List.getElem?_eq_getElem b1)
 obtain ⟨v',e2,r2⟩:=rj.get (List.getElem?_eq_getElem b2)
 have c1:is.toArray[j]=u':=by
  rw [List.getElem_toArray]
  have:=List.getElem?_eq_getElem (l:=is) (i:=j) (by simpa using h1)
  rw [this] at e1;exact Option.some.inj e1
 have c2:js.toArray[j]=v':=by
  rw [List.getElem_toArray]
  have:=List.getElem?_eq_getElem (l:=js) (i:=j) (by simpa using h2)
  rw [this] at e2;exact Option.some.inj e2
 have d1:xs.getD j .non=xs[j]:=by simp [List.getD,List.getElem?_eq_getElem b1]
 have d2:ys.getD j .non=ys[j]:=by simp [List.getD,List.getElem?_eq_getElem b2]
 rw [c1,c2,d1,d2]
 exact eqAt_V r1 r2 (List.all_eq_true.mp fx _ (List.getElem_mem b1)) (List.all_eq_true.mp fy _ (List.getElem_mem b2))
end
section
variable {X:Cx}
def rEqF (K:PySem.W.Frag) (neg:Bool):R2:=fun x y H Q=>∃ p q xs ys,x=.ref p/\y=.ref q/\((SqL K H p xs/\SqL K H q ys)\/(SqT K H p xs/\SqT K H q ys))/\xs.all flatV=true/\ys.all flatV=true/\Q (.bl (if neg then !eqVs xs ys else eqVs xs ys)) H
theorem min_eq' {a b:Nat} (h:a=b):min a b=a:=by omega
theorem op_eq_flat (hu:X.A.units+1 < cLine):OpR X (compareOp .Eq) (rEqF X.K false):=by
 intro pins s σ H x y v u Q I rx ry h
 obtain ⟨p,q,xs,ys,rfl,rfl,h,fx,fy,fin⟩:=h
 cases rx
 cases ry
 rcases h with ⟨hp,hq⟩ | ⟨hp,hq⟩
 ·obtain ⟨is,ri,pi,_⟩:=I.list hp
  obtain ⟨js,rj,pj,_⟩:=I.list hq
  by_cases el:xs.length=ys.length
  ·refine SeqAt.eq_listAt pi.isList pj.isList (by simp only [List.size_toArray];rw [<- ri.length,<- rj.length];exact el) (by omega) (eq_items fx fy ri rj) ?_
   refine fin_bl I fin ?_
   rw [List.size_toArray,<- ri.length]
   exact eqVs_all el
  ·refine SeqAt.eq_list_lengthsAt pi.isList pj.isList ?_ (by omega) (fin_bl I fin ?_)
   ·simp only [List.size_toArray,bne_iff_ne]
    rw [<- ri.length,<- rj.length]
    exact el
   ·exact eqVs_len el
 ·obtain ⟨is,ri,pi,_⟩:=I.tuple hp
  obtain ⟨js,rj,pj,_⟩:=I.tuple hq
  refine SeqAt.eq_tupleAt pi pj (by omega) (eq_items fx fy ri rj) ?_
  refine fin_bl I fin ?_
  simp only [List.size_toArray]
  rw [<- ri.length,<- rj.length]
  by_cases el:xs.length=ys.length
  ·rw [min_eq' el,<- eqVs_all el]
   simp [el]
  ·have:(xs.length == ys.length)=false:=by simpa using el
   rw [this,Bool.and_false]
   exact eqVs_len el
def rEqLen (K:PySem.W.Frag):R2:=fun x y H Q=>∃ p q xs ys,x=.ref p/\y=.ref q/\SqL K H p xs/\SqL K H q ys/\xs.length≠ys.length/\Q (.bl false) H
theorem op_eq_len (hu:X.A.units+1 < cLine):OpR X (compareOp .Eq) (rEqLen X.K):=by
 intro pins s σ H x y v u Q I rx ry h
 obtain ⟨p,q,xs,ys,rfl,rfl,hp,hq,ne,fin⟩:=h
 cases rx
 cases ry
 obtain ⟨is,ri,pi,_⟩:=I.list hp
 obtain ⟨js,rj,pj,_⟩:=I.list hq
 refine SeqAt.eq_list_lengthsAt pi.isList pj.isList ?_ (by omega) (fin_bl I fin rfl)
 simp only [List.size_toArray,bne_iff_ne]
 rw [<- ri.length,<- rj.length]
 exact ne
def rEqNil (K:PySem.W.Frag) (neg:Bool):R2:=fun x y H Q=>∃ p q xs,x=.ref p/\y=.ref q/\SqL K H p xs/\SqL K H q []/\Q (.bl (if neg then !decide (xs=[]) else decide (xs=[]))) H
theorem op_eq_nil (hu:X.A.units+1 < cLine):OpR X (compareOp .Eq) (rEqNil X.K false):=by
 intro pins s σ H x y v u Q I rx ry h
 obtain ⟨p,q,xs,rfl,rfl,hp,hq,fin⟩:=h
 cases xs with
 | nil=>exact op_eq_flat hu pins s σ H _ _ v u Q I rx ry ⟨p,q,[],[],rfl,rfl,.inl ⟨hp,hq⟩,rfl,rfl,fin⟩
 | cons z zs=>exact op_eq_len hu pins s σ H _ _ v u Q I rx ry ⟨p,q,_,_,rfl,rfl,hp,hq,by simp,fin⟩
open Classical in
theorem flat_strs' (zs:List Str):(zs.map V.str).all flatV=true:=by simp [flatV]
end
structure DBlk where
 key:Expr
 val:Expr
 tgt:Expr
 src:Expr
 cs:List Expr
 sc:Scope
 pos:Pos
namespace DBlk
variable (B:DBlk)
abbrev expr:Expr:=.DictComp B.key B.val [⟨B.tgt,B.src,B.cs,0⟩] B.sc B.pos
section
variable (prog:Program) (w:World) (A:Around) (env:Env) (it:Value) (D:Addr)
def Lays (J:Shared->Prop):Bool->Shared->Prop
 | false,s=>J s
 | true,s=>Blk.Tame prog w A (eval B.key env) (fun x=>Blk.Tame prog w A (eval B.val env) fun y=>Blk.Tame prog w A (dictSet D x y) fun _=>J) s
def Takes (J:Shared->Prop) (v:Value):Shared->Prop :=
 Blk.Tame prog w A (letOwnedTupleGo B.tgt it v) fun _=>Blk.Tame prog w A (assign B.tgt env v) fun _=>Blk.Tame prog w A (allTests env B.cs) (B.Lays prog w A env D J)
def Next (Dn J:Shared->Prop):Option Value->Shared->Prop
 | none=>Dn
 | some v=>B.Takes prog w A env it D J v
end
theorem loops {B:DBlk} {prog:Program} {w:World} {A:Around} {env:Env} {it:Value} {D:Addr} {R:Result->Shared->Prop} (G:Nat->Shared->Prop)
  (turn:∀ k t,G k t->Blk.Tame prog w A (pyNext it) (B.Next prog w A env it D (R (.ok .next)) fun u=>∃ j,j < k/\G j u) t)
  {k:Nat} {t:Shared} (g:G k t):codeAny (model prog w) A (.compLoop B.expr 0 it (.ref D) env) R t:=by
 have one:∀ k t,G k t->Blk.Tame prog w A (compTurn B.expr 0 it (.ref D) env) (fun x t'=>match x with | .done r=>R (.ok r) t' | .again c=>c=.compLoop B.expr 0 it (.ref D) env/\∃ j,j < k/\G j t') t:=by
  intro k t g
  rw [show B.expr=.DictComp B.key B.val [⟨B.tgt,B.src,B.cs,0⟩] B.sc B.pos from rfl,compTurn_dict]
  apply wpAny_bind;apply wpAny_standAt;apply wpAny_bind
  refine thn (turn k t g) fun x t1 h1=>?_
  match x,h1 with
  | none,h1=>exact wpAny_pure h1
  | some v,h1 =>
   apply wpAny_bind;refine thn h1 fun _ t2 h2=>?_
   apply wpAny_bind;refine thn h2 fun _ t3 h3=>?_
   apply wpAny_bind;refine thn h3 fun b t4 h4=>?_
   match b,h4 with
   | false,h4=>exact wpAny_pure ⟨rfl,h4⟩
   | true,h4 =>
    apply wpAny_bind;apply wpAny_bind
    refine thn h4 fun y t5 h5=>?_
    apply wpAny_bind;apply wpAny_holding
    refine thn h5 fun z t6 h6=>?_
    apply wpAny_bind;apply wpAny_standAt;apply wpAny_holding
    refine thn h6 fun _ t7 h7=>?_
    exact wpAny_pure ⟨rfl,h7⟩
 exact codeAny_loop rfl G (fun k t g=>wpAny_noted (wpAny_mono (one k t g) (fun _ _ q=>q) fun _ _ f=>f.elim)) k g
end DBlk
def dcLoop (own : List Str) (fr : List Nat) (g : TG) (tt : TT) (tk te : TE) (σ : St) (Q : VK) (J : It) (H1 : Hp) : Prop :=
  ∃ W : Nat → Nat → List (Key × V) → Hp → Prop, (∃ m, W 0 m [] H1) ∧ ∀ i m kvs H2, W i m kvs H2 → kvs.length ≤ sizeLine ∧
    ((J.stop i H2 ∧ ∀ D, H2 D = none → Q (.ref D) (upd H2 D (.dK kvs))) ∨
     (J.go i H2 ∧ ∀ x H3, J.yld i H2 x H3 → g x (cSt own fr σ) H3 fun σ4 H4 => tt σ4 H4 fun b H5 => if b = true then tk σ4 H5 fun y H6 => te σ4 H6 fun z H7 => ∃ k, y = kV k ∧ ∃ m', m' < m ∧ W (i + 1) m' (putK kvs k z) H7 else ∃ m', m' < m ∧ W (i + 1) m' kvs H5))
def tDC (own:List Str) (fr:List Nat) (wi:TI) (g:TG) (tt:TT) (tk te:TE):TE:=fun σ H Q=>wi σ H (dcLoop own fr g tt tk te σ Q)
section
variable {X:Cx} {own:List Str} {fr:List Nat} {sc:Scope} {tg iter kx vx:Expr} {ifs:List Expr} {pos:Pos} {wi:TI} {g:TG} {tt:TT} {tk te:TE}
theorem dc_core {pins:List (Addr × Obj)} {σ:St} {H2:Hp} {s2:Shared} {Q:VK} {it:Addr} {fp:List Addr} {tn:Nat->Heap->Prop} {J:It} {RR:Value->Addr->Result->Shared->Prop} {E:Value->Shared->Prop} (hc:X.calm=true) (S:CompSc X own fr sc) (gk:GK own.length g)
  (hg:∀ s H fp,PG (cxC X own fr sc s H fp) tg g) (ht:∀ s H fp,PIfs (cxC X own fr sc s H fp) ifs tt) (hk:∀ s H fp,PE (cxC X own fr sc s H fp) kx tk) (he:∀ s H fp,PE (cxC X own fr sc s H fp) vx te)
  (I2:Inv X pins σ H2 s2) (T:Turn X.prog X.w X.K tg J fp it tn) (st2:tn 0 s2.heap) (f2:∀ b∈fp,FpOk X pins H2 b) (L:dcLoop own fr g tt tk te σ Q J H2)
  (hRR:∀ D C s',(∃ m,s'.heap.Ns C m)->@LE.le Nat _ s2.heap.objs.size C->(∃ H',H' C=none/\Q (.ref D) H'/\∀ h' tk,Heap.SameBut C s'.heap h'->Inv X pins σ H' { s' with heap:=h',toks:=tk })->RR (.ref D) C (.ok .next) s') :
  wpAny (model X.prog X.w) X.A newDict (fun acc s₃=>wpAny (model X.prog X.w) X.A (newFunctionEnv sc X.env.globals (clOf X.env sc.names []) [] X.env.qual none .none (some X.env)) (fun cenv s₄ =>
   codeAny (model X.prog X.w) X.A (.compStart (.DictComp kx vx [⟨tg,iter,ifs,0⟩] sc pos) 0 (.ref it) acc { cenv with scope:=relabel sc X.env }) (RR acc cenv.locals) s₄) E s₃) E s2:=by
 obtain ⟨W,⟨m0,w0⟩,turn⟩:=L
 refine wpAny_newObj_type (newEnv_comp ?_)
 dsimp only
 generalize hh1:s2.heap.push { cls:=.type "dict",dict:=none,data:=.dict #[] }=h1
 have hz:h1.objs.size=s2.heap.objs.size+1:=by rw [<- hh1,Heap.size_push]
 have hk1:∀ b o,s2.heap.get? b=some o->h1.get? b=some o:=fun b o e=>by rw [<- hh1];exact Heap.get?_push_of_some _ e
 have hD1:h1.get? s2.heap.objs.size=some { cls:=.type "dict",data:=.dict #[] }:=by rw [<- hh1];exact Heap.get?_push_size _ rfl
 have hfl:∀ b∈fp,@LT.lt Nat _ b s2.heap.objs.size:=fun b hb=>by
  obtain ⟨o,e,_⟩:=T.obj _ _ st2 b hb
  exact Heap.lt_size e
 have I3:=inv_comp I2 S f2 hz hk1 hfl
 rw [hz]
 generalize hY:cxC X own fr sc s2 H2 fp=Y at I3
 have hD3:(hC s2 sc h1).get? s2.heap.objs.size=some { cls:=.type "dict",data:=.dict #[] }:=pushCells_keeps _ _ _ _ (Heap.get?_push_of_some _ hD1)
 have st3:tn 0 (hC s2 sc h1):=T.keep _ _ _ st2 fun b _ o e=>pushCells_keeps _ _ _ _ (Heap.get?_push_of_some _ (hk1 b o e))
 have eP:Y.prog=X.prog:=by rw [<- hY];rfl
 have eW:Y.w=X.w:=by rw [<- hY];rfl
 have eK:Y.K=X.K:=by rw [<- hY];rfl
 have eA:Y.A=X.A:=by rw [<- hY];rfl
 have eX:Y.xe=Nev:=by rw [<- hY];rfl
 have ecm:Y.calm=true:=by rw [<- hY];exact hc
 have eEnv:({ scope:=relabel sc X.env,locals:=s2.heap.objs.size+1,globals:=X.env.globals,cells:=cellsFrom (s2.heap.objs.size+1+1) sc.names (clOf X.env sc.names []),qual:=X.env.qual,func:=none,code:=X.env.code,frame:=X.env.frame,builtins:=X.env.builtins }:Env)=Y.env:=by rw [<- hY];rfl
 have eL:Y.env.locals=s2.heap.objs.size+1:=by rw [<- hY];rfl
 rw [eEnv]
 have hg':PG Y tg g:=hY ▸ hg s2 H2 fp
 have ht':PIfs Y ifs tt:=hY ▸ ht s2 H2 fp
 have he':PE Y vx te:=hY ▸ he s2 H2 fp
 have hk':PE Y kx tk:=hY ▸ hk s2 H2 fp
 have dfp:s2.heap.objs.size ∉ fp:=fun z=>Nat.lt_irrefl _ (hfl _ z)
 have dC:s2.heap.objs.size≠s2.heap.objs.size+1:=Nat.ne_of_lt (Nat.lt_succ_self _)
 have cellN:∀ x c,Y.env.cells.lookup x=some c->c≠s2.heap.objs.size:=fun x c e z=>by
  obtain ⟨v,o,q,d⟩:=I3.cell x c e
  rw [z] at q
  have q':=hD3.symm.trans q
  cases q'
  cases d
 have hDfs:s2.heap.objs.size ∉ Y.fs:=by
  rw [<- hY]
  intro z
  rcases List.mem_cons.mp (I2.stkSub _ z) with e | e
  ·exact Nat.lt_irrefl _ (by have:=I2.lt;rw [<- e] at this;exact this)
  ·exact I2.nofs (Nat.le_refl _) e
 have hD0:@LE.le Nat _ Y.s₀.heap.objs.size s2.heap.objs.size:=by rw [<- hY];exact Nat.le_refl _
 have fpY:∀ {H':Hp} {pp:List (Addr × Obj)},(∀ b∈fp,H' b=none)->(∀ p∈pp,p.1 ∉ fp)->∀ b∈fp,FpOk Y pp H' b:=fun {H' pp} hn hp b hb=>by
  refine ⟨hn b hb,?_,?_,?_,?_,fun p hq z=>?_⟩
  ·have:=hfl b hb;rw [eL];intro z;have z':@Eq Nat b (s2.heap.objs.size+1):=z;omega
  ·rw [<- hY]
   intro z
   rcases List.mem_cons.mp (I2.stkSub _ z) with e | e
   ·exact (f2 b hb).2.1 e
   ·exact (f2 b hb).2.2.1 e
  ·exact .inl (by rw [<- hY];exact hb)
  ·exact (I3.ok.exf b (by rw [<- hY];exact hb)).2
  ·rcases List.mem_append.mp hq with q | q
   ·have:p∈([]:List (Addr × Obj)):=by rw [<- hY] at q;exact q
    exact nomatch this
   ·exact hp p q (z ▸ hb)
 have pinD:∀ {H':Hp} {s':Shared} {σ':St} {ob:Obj},Inv Y [] σ' H' s'->H' s2.heap.objs.size=none->s'.heap.get? s2.heap.objs.size=some ob->(∀ v,ob.data≠.cell v)->Inv Y [(s2.heap.objs.size,ob)] σ' H' s':=fun {H' s' σ' ob} J0 hn e d =>
  J0.pins_of fun p hp=>by
   have:p=(s2.heap.objs.size,ob):=by simpa using hp
   subst this
   exact ⟨e,hn,by rw [eL];exact dC,hDfs,d⟩
 have fpp:∀ {ob:Obj} (p:Addr × Obj),p∈[(s2.heap.objs.size,ob)]->p.1 ∉ fp:=fun {ob} p hp=>by
  have:p=(s2.heap.objs.size,ob):=by simpa using hp
  subst this;exact dfp
 have loop:codeAny (model X.prog X.w) X.A (.compLoop (.DictComp kx vx [⟨tg,iter,ifs,0⟩] sc pos) 0 (.ref it) (.ref s2.heap.objs.size) Y.env) (RR (.ref s2.heap.objs.size) (s2.heap.objs.size+1)) { s2 with heap:=hC s2 sc h1 }:=by
  have hD4:(hC s2 sc h1).DictOf (mixKind X.prog X.w) s2.heap.objs.size []:=(show h1.DictOf (mixKind X.prog X.w) s2.heap.objs.size [] from hh1 ▸ Heap.DictOf.new s2.heap).keep fun b o e=>pushCells_keeps _ _ _ _ (Heap.get?_push_of_some _ e)
  refine DBlk.loops (B:=⟨kx,vx,tg,iter,ifs,sc,pos⟩) (fun n s'=>∃ i kvs vs H',W i n kvs H'/\Inv Y [] (cSt own fr σ) H' s'/\tn i s'.heap/\(∀ b∈fp,H' b=none)/\H' s2.heap.objs.size=none/\s'.heap.DictOf (mixKind X.prog X.w) s2.heap.objs.size vs/\KV kvs vs) ?_ (k:=m0)
   ⟨0,[],[],H2,w0,I3,st3,fun b hb=>(f2 b hb).1,I2.hok.fresh (Nat.le_refl _),hD4,.nil⟩
  rintro n s' ⟨i,kvs,vs,H',w',J0,st',fr',hDn,hDo,rv⟩
  obtain ⟨hyl,cases'⟩:=turn i n kvs H' w'
  obtain ⟨ob,es,ep,hob,hexd,hdat,hkeys,hpairs,hnod⟩:=hDo
  have hnc:∀ v,ob.data≠.cell v:=fun v z=>by rw [hdat] at z;cases z
  have J1:=pinD J0 hDn hob hnc
  rcases cases' with ⟨stop,fin⟩ | ⟨go,step⟩
  ·have d0:=T.done Y eP eW eK ecm i _ s' _ H' Nev J1 (fpY fr' fpp) st' stop
   rw [eA] at d0
   refine wpAny_mono d0 (fun r s4 ⟨hr,J4⟩=>?_) fun _ _ z=>z
   subst hr
   have pD:=(J4.pin (s2.heap.objs.size,_) (List.mem_append_right _ List.mem_cons_self)).1
   refine hRR _ _ s4 ?_ (Nat.le_succ _) ⟨upd H' s2.heap.objs.size (.dK kvs),?_,fin _ hDn,fun h' tk hs=>?_⟩
   ·obtain ⟨m,hn,_⟩:=J4.loc
    rw [eL] at hn
    exact ⟨m,hn⟩
   ·rw [upd_ne (Ne.symm dC),<- eL];exact J4.free
   ·subst hY
    have hO:ObjOk X.prog X.w (upd H' s2.heap.objs.size (.dK kvs)) h' s2.heap.objs.size (.dK kvs):=⟨hyl,beq_eq_false_iff_ne.mpr (Ne.symm (Nat.ne_of_lt I2.big)),vs,rv,ob,es,ep,(hs.2 _ dC).trans pD,hexd,hdat,hkeys,hpairs,hnod⟩
    exact inv_back I2 f2 J4 (Nat.le_refl _) hDn dC hs hO tk
  ·have d0:=T.item Y eP eW eK ecm i _ s' _ H' Nev J1 (fpY fr' fpp) st' go
   rw [eA] at d0
   refine wpAny_mono d0 (fun r s4 ⟨u,hr,h4⟩=>?_) fun _ _ z=>z
   subst hr
   refine wpAny_mono h4 (fun _ s5 ⟨x,H5,J5,r5,y5,st5,fr5⟩=>?_) fun _ _ z=>z
   have J5':=J5.pinned (fpY fr5 fpp) (T.obj _ _ st5)
   have s1:=hg' _ s5 _ H5 x u _ J5' r5 (gk _ _ _ _ (step x H5 y5))
   rw [eP,eW,eA,eX] at s1
   refine wpAny_mono s1 (fun _ s6 ⟨σ6,H6,J6,q6,kp6⟩=>?_) fun _ _ z=>z
   have s2':=ht' _ s6 σ6 H6 _ J6 q6
   rw [eP,eW,eA,eX] at s2'
   refine wpAny_mono s2' (fun ok s7 ⟨H7,J7,q7⟩=>?_) fun _ _ z=>z
   have low:∀ {H8:Hp} {s8:Shared},Inv Y ([(s2.heap.objs.size,ob)]++pinsAt fp s5.heap) σ6 H8 s8 ->
     Inv Y (pinsAt fp s5.heap) σ6 H8 s8/\H8 s2.heap.objs.size=none/\s8.heap.get? s2.heap.objs.size=some ob/\(∀ b∈fp,H8 b=none)/\tn (i+1) s8.heap:=fun {H8 s8} J8=>by
    have p8:=J8.pin (s2.heap.objs.size,_) (List.mem_append_right _ (List.mem_append_left _ List.mem_cons_self))
    refine ⟨J8.pins_of fun p hp=>J8.pin p (List.mem_append_right _ (List.mem_append_right _ hp)),p8.2.1,p8.1,fun b hb=>?_,T.keep _ _ _ st5 fun b hb o e=>(J8.pin (b,o) (List.mem_append_right _ (List.mem_append_right _ (mem_pinsAt hb e)))).1⟩
    obtain ⟨o,e,d⟩:=T.obj _ _ st5 b hb
    exact (J8.pin (b,o) (List.mem_append_right _ (List.mem_append_right _ (mem_pinsAt hb e)))).2.1
   have weak:∀ {H8:Hp} {s8:Shared} {pp:List (Addr × Obj)},Inv Y pp σ6 H8 s8->Inv Y [] (cSt own fr σ) H8 s8:=fun {H8 s8 pp} J8=>(J8.weak kp6.1.symm (fun j v e=>by
    by_cases hj:j < own.length
    ·exfalso
     unfold cSt at e
     rw [List.getElem?_append_left (by simpa using hj),List.getElem?_replicate] at e
     split at e<;>cases e
    ·rw [kp6.2 j (Nat.not_lt.mp hj)];exact e)).pins_of fun p hp=>nomatch hp
   cases ok with
   | false =>
    obtain ⟨m',hm,w7⟩:=(show ∃ m',m' < n/\W (i+1) m' kvs H7 by simpa using q7)
    obtain ⟨_,l1,l2,l3,l4⟩:=low J7
    exact ⟨m',hm,i+1,kvs,vs,H7,w7,weak J7,l4,l3,l1,⟨ob,es,ep,l2,hexd,hdat,hkeys,hpairs,hnod⟩,rv⟩
   | true =>
    have q7':tk σ6 H7 fun y H6=>te σ6 H6 fun z H7=>∃ k,y=kV k/\∃ m',m' < n/\W (i+1) m' (putK kvs k z) H7:=by simpa using q7
    have s3:=hk' _ s7 σ6 H7 _ J7 q7'
    rw [eP,eW,eA,eX] at s3
    show wpAny _ _ _ _ _ _
    refine wpAny_mono s3 (fun yv s8 ⟨y,H8,J8,r8,q8⟩=>?_) fun _ _ z=>z
    have s4':=he' _ s8 σ6 H8 _ J8 q8
    rw [eP,eW,eA,eX] at s4'
    refine wpAny_mono s4' (fun zv s9 ⟨z,H9,J9,r9,ky,ey,m',hm,w9⟩=>?_) fun _ _ z=>z
    subst ey
    obtain ⟨J9a,l1,l2,l3,l4⟩:=low J9
    refine wpAny_dictSet_pairs (knd:=mixKind X.prog X.w) (hsz:=by rw [<- rv.length];exact hyl) (kV_is r8) (⟨ob,es,ep,l2,hexd,hdat,hkeys,hpairs,hnod⟩:s9.heap.DictOf (mixKind X.prog X.w) s2.heap.objs.size vs) fun h' hD' hs'=>?_
    have J10:Inv Y [] (cSt own fr σ) H9 { s9 with heap:=h',toks:=s9.toks+1 }:=by
     refine (weak J9a).turned (t':=s9.toks+1) (it:=s2.heap.objs.size) (fun b o hb e=>(hs'.2 b hb).trans e) l1 (by rw [eL];exact dC) (.inr hD0) cellN fun p hp=>?_
     have:p∈([]:List (Addr × Obj)):=by rw [<- hY] at hp;exact hp
     exact nomatch this
    refine ⟨m',hm,i+1,putK kvs ky z,stored vs ky zv,H9,w9,J10,?_,l3,l1,hD',rv.put ky r9⟩
    exact T.keep _ _ _ l4 fun b hb o e=>(hs'.2 b (fun z=>dfp (z ▸ hb))).trans e
 exact codeAny_compStart_dict loop (T.self X.A 0 _ _ _ st3 loop)
theorem ps_setD {spos pos':Pos} {i:Nat} {x:Str} (own:List Str) (fr:List Nat) (hN:X.N.Nodup) (hix:X.N[i]?=some x) (hx:X.env.scope.names.lookup x=some .local) (hc:X.calm=true) (S:CompSc X own fr sc) (gk:GK own.length g) (hi:PI X tg iter wi)
  (hg:∀ s H fp,PG (cxC X own fr sc s H fp) tg g) (ht:∀ s H fp,PIfs (cxC X own fr sc s H fp) ifs tt) (hk:∀ s H fp,PE (cxC X own fr sc s H fp) kx tk) (he:∀ s H fp,PE (cxC X own fr sc s H fp) vx te)
  (hsw:swapsWith (.DictComp kx vx [⟨tg,iter,ifs,0⟩] sc pos) (some (.Name x pos')) spos.line X.env=pure true:=by rfl)
  (hs:∀ x,foldedSetIterable iter X.env x=pure x:=by intro _;rfl):PS X (.Assign [.Name x pos'] (.DictComp kx vx [⟨tg,iter,ifs,0⟩] sc pos) spos) (tAsg (tDC own fr wi g tt tk te) (gName i)):=by
 intro pins s σ H D I h
 rw [exec_Assign_Name_used _ _ _ _ hsw]
 apply wpAny_bind;apply wpAny_standAt;apply wpAny_bind
 show wpAny _ _ (comprehension (.DictComp kx vx [⟨tg,iter,ifs,0⟩] sc pos) sc X.env _ newDict false (eval iter X.env) (some (assign (.Name x pos') X.env)) >>= _) _ _ s
 apply wpAny_bind
 have hclos:closureFor sc X.env=pure (clOf X.env sc.names []):=closureFor_of fun y hy hf=>I.ok.has y.1 (by
  rcases S.fre y hy hf with q | q
  ·exact .inl q
  ·exact .inr q)
 refine wpAny_mono (wpAny_comprehension_free (use:=some (assign (.Name x pos') X.env)) (Q:=fun _ s'=>SP X pins D .next s') rfl hs hclos S.kind (fun y hy hl=>lookup_of_mem_nd S.nd (by rw [<- hl];exact hy)) ?_) (fun _ s' q=>wpAny_pure (wpAny_pure q)) fun _ _ z=>z
 refine thn (hi pins s σ H _ I h) fun v s1 h1=>thn h1 fun itv s2 h2=>?_
 obtain ⟨it,fp,tn,J,H2,e,I2,T,st2,f2,L⟩:=h2
 subst e
 exact dc_core hc S gk hg ht hk he I2 T st2 f2 L fun D0 C s' ns le h=>stored_use (R:=D.nx) I2 hN hix hx ns le h
end
theorem dc_list {K:PySem.W.Frag} {a:Addr} {xs:List V} {own:List Str} {fr:List Nat} {g:TG} {tt:TT} {tk te:TE} {σ:St} {Q:VK} {H:Hp} (Pv:Nat->List (Key × V)->Hp->Prop) (h0:Pv 0 [] H) (hlen:∀ i kvs H,i<=xs.length->Pv i kvs H->kvs.length<=sizeLine)
  (hl:∀ i kvs H,i<=xs.length->Pv i kvs H->SqL K H a xs)
  (hs:∀ i x kvs H (R:List (Key × V)->Hp->Prop),xs[i]?=some x->Pv i kvs H->(∀ kvs' H',Pv (i+1) kvs' H'->R kvs' H')->g x (cSt own fr σ) H fun σ4 H4=>tt σ4 H4 fun b H5=>if b=true then tk σ4 H5 fun y H6=>te σ4 H6 fun z H7=>∃ k,y=kV k/\R (putK kvs k z) H7 else R kvs H5)
  (hd:∀ kvs H,Pv xs.length kvs H->∀ D,H D=none->Q (.ref D) (upd H D (.dK kvs))):dcLoop own fr g tt tk te σ Q (Itl K a) H:=by
 refine ⟨fun i m kvs H=>m=xs.length - i/\i<=xs.length/\Pv i kvs H,⟨xs.length,rfl,Nat.zero_le _,h0⟩,?_⟩
 rintro i m kvs H2 ⟨rfl,hi,p⟩
 refine ⟨hlen i kvs H2 hi p,?_⟩
 have q:=hl i kvs H2 hi p
 by_cases h:i < xs.length
 ·refine .inr ⟨⟨xs,xs[i],q,by simp [h]⟩,fun x H3 hy=>?_⟩
  obtain ⟨rfl,hy⟩:=hy
  have z:=hs i x kvs _ (fun kvs' H'=>∃ m',m' < xs.length - i/\(m'=xs.length - (i+1)/\i+1<=xs.length/\Pv (i+1) kvs' H')) (hy xs q) p fun kvs' H' q=>⟨xs.length - (i+1),by omega,rfl,h,q⟩
  exact z
 ·have e:i=xs.length:=by omega
  subst e
  exact .inl ⟨⟨xs,q,Nat.le_refl _⟩,hd kvs H2 p⟩
def tab:List Str->List Addr->List (Key × V)
 | z::zs,l::ls=>(Sum.inr z,V.ref l)::tab zs ls
 | _,_=>[]
theorem tab_len:∀ {zs:List Str} {ls:List Addr},ls.length=zs.length->(tab zs ls).length=zs.length
 | [],[],_=>rfl
 | [],_::_,h=>by simp at h
 | _::_,[],h=>by simp at h
 | z::zs,l::ls,h=>by
  show (tab zs ls).length+1=zs.length+1
  rw [tab_len (by simpa using h)]
theorem tab_snoc:∀ {zs:List Str} {ls:List Addr} (z:Str) (l:Addr),ls.length=zs.length->tab (zs++[z]) (ls++[l])=tab zs ls++[(Sum.inr z,V.ref l)]
 | [],[],_,_,_=>rfl
 | [],_::_,_,_,h=>by simp at h
 | _::_,[],_,_,h=>by simp at h
 | x::zs,y::ls,z,l,h=>by
  show (Sum.inr x,V.ref y)::tab (zs++[z]) (ls++[l])=_
  rw [tab_snoc z l (by simpa using h)]
  rfl
theorem tab_none:∀ {zs:List Str} {ls:List Addr} {z:Str},z ∉ zs->valV (tab zs ls) (Sum.inr z:Key)=none
 | [],_,_,_=>rfl
 | _::_,[],_,_=>rfl
 | x::zs,y::ls,z,h=>by
  have h1:¬ x=z:=fun e=>h (e ▸ List.mem_cons_self)
  show valV ((Sum.inr x,V.ref y)::tab zs ls) _=_
  rw [valV_neg (fun e=>h1 (Sum.inr.inj e))]
  exact tab_none fun m=>h (List.mem_cons_of_mem _ m)
theorem tab_at:∀ {zs:List Str} {ls:List Addr} {i:Nat} {z:Str} {l:Addr},zs.Nodup->zs[i]?=some z->ls[i]?=some l->valV (tab zs ls) (Sum.inr z:Key)=some (.ref l)
 | [],_,_,_,_,_,h,_=>by simp at h
 | _::_,[],_,_,_,_,_,h=>by simp at h
 | x::zs,y::ls,0,z,l,_,h1,h2=>by
  have e1:x=z:=by simpa using h1
  have e2:y=l:=by simpa using h2
  subst e1 e2
  exact valV_pos rfl
 | x::zs,y::ls,i+1,z,l,nd,h1,h2=>by
  rw [List.nodup_cons] at nd
  have h1':zs[i]?=some z:=by simpa using h1
  have ne:¬ x=z:=fun e=>nd.1 (e ▸ List.mem_of_getElem? h1')
  show valV ((Sum.inr x,V.ref y)::tab zs ls) _=_
  rw [valV_neg (fun e=>ne (Sum.inr.inj e))]
  exact tab_at nd.2 h1' (by simpa using h2)
theorem nd_at {α:Type} {l:List α} (nd:l.Nodup) {i j:Nat} {x:α} (hi:l[i]?=some x) (hj:l[j]?=some x):i=j:=by
 obtain ⟨h1,e1⟩:=List.getElem?_eq_some_iff.mp hi
 obtain ⟨h2,e2⟩:=List.getElem?_eq_some_iff.mp hj
 exact (List.getElem_inj nd).mp (e1.trans e2.symm)
section
variable {prog:Program} {w:World} {A:Around} {E:Value->Shared->Prop} {s:Shared}
variable {K:Type} [DecidableEq K] {knd:KeyKind prog w K}
end
section
variable {prog:Program} {w:World} {A:Around} {E:Value->Shared->Prop} {s:Shared}
end
section
variable {prog:Program} {w:World} {A:Around} {I S:Addr} {fp wr:List Addr} {G:Array GenState->Array GenState->Prop} {P:Nat->Value->Prop} {St:Nat->Shared->Prop} {zs:List Str} {R:Result->Shared->Prop} {led:Bool}
end
section
variable {prog:Program} {w:World} {A:Around} {E:Value->Shared->Prop} {s:Shared}
end
end L2
namespace L3
open PySem
abbrev Probe:=SetTable.Probe
end L3
namespace L2
open PySem PySem.Spec PyProof.Rows
section
variable {prog:Program} {w:World} {A:Around} {E:Value->Shared->Prop} {s:Shared}
end
theorem perm_of_sub {α:Type} [DecidableEq α]:∀ {l m:List α},l.Nodup->(∀ x∈l,x∈m)->m.length<=l.length->l.Perm m
 | [],m,_,_,h=>by
  have:m=[]:=List.eq_nil_of_length_eq_zero (by simpa using h)
  rw [this]
 | x::l,m,nd,sub,h=>by
  have nd':=List.nodup_cons.mp nd
  have hx:=sub x List.mem_cons_self
  have p:=List.perm_cons_erase hx
  refine (List.Perm.cons x (perm_of_sub nd'.2 (fun y hy=>?_) ?_)).trans p.symm
  ·have:=p.mem_iff.mp (sub y (List.mem_cons_of_mem _ hy))
   rcases List.mem_cons.mp this with e | e
   ·exact absurd (e ▸ hy) nd'.1
   ·exact e
  ·have:=List.length_erase_of_mem hx
   simp at h;omega
section
variable {prog:Program} {w:World}
end
section
variable {X:Cx}
end
section
variable {X:Cx} {e k:Expr} {te tk:TE} {p2 pos:Pos}
end
end L2
namespace HT
open PySem PySem.Spec PyProof.Rows
section
variable {prog:Program} {w:World} {A:Around} {E:Value->Shared->Prop} {s:Shared}
end
end HT
namespace L2
open PySem PySem.Spec PyProof.Rows
section
variable {X:Cx} {e k:Expr} {te tk:TE} {p2 pos:Pos}
end
section
variable {X:Cx}
end
end L2
namespace K22
open PySem PySem.Spec PyProof.Rows L2
structure Mt (K:PySem.W.Frag) (mg:Str->Option Value) (C fP fS:Addr) (fdP fdS:FuncData):Prop where
 wc:WC K mg C
 pF:Fun K "places" "Web.places" sPlaces fP fdP
 pM:Meth K C "places" fP
 pB:Binds K fdP ["self"] []
 sF:Fun K "ties" "Web.ties" sTies fS fdS
 sM:Meth K C "ties" fS
 sB:Binds K fdS ["self"] []
theorem WebObj.meth {C x:Addr} {H:Hp} {ns:List Str} {ps:List (Str × Str)} (h:WebObj C H x ns ps) (m:Str) (e1:(m == ("kept_places" : Str))=false:=by decide +kernel) (e2:(m == ("kept_ties" : Str))=false:=by decide +kernel):∃ dx fs,H x=some (.ins C dx fs)/\fs.lookup m=none:=by
 obtain ⟨dx,kp,kt,us,q,_⟩:=h
 exact ⟨dx,_,q,wf_no kp kt m e1 e2⟩
structure GoodW (ns:List Str) (ps:List (Str × Str)):Prop where
 good:GoodP ns
 ins:InP ns ps
 few:ps.length<=30
end K22
namespace L2
open PySem PySem.Spec PyProof.Rows
inductive Rch (ps:List (Str × Str)):Str->Str->Prop where
 | here (a:Str):Rch ps a a
 | on {a b c:Str} (h:Rch ps a b) (t:(b,c)∈ps):Rch ps a c
theorem Rch.trans {ps:List (Str × Str)} {a b c:Str} (h:Rch ps a b) (k:Rch ps b c):Rch ps a c:=by
 induction k with
 | here=>exact h
 | on _ t ih=>exact ih.on t
theorem Rch.one {ps:List (Str × Str)} {a b:Str} (t:(a,b)∈ps):Rch ps a b:=(Rch.here a).on t
theorem Rch.isin {ns:List Str} {ps:List (Str × Str)} (hi:∀ p∈ps,p.1∈ns/\p.2∈ns) {a b:Str} (h:Rch ps a b) (ha:a∈ns):b∈ns:=by
 cases h with
 | here=>exact ha
 | on _ t=>exact (hi _ t).2
theorem Rch.stays {ps:List (Str × Str)} {S:Str->Prop} {a b:Str} (h:Rch ps a b) (ha:S a) (hc:∀ p∈ps,S p.1->S p.2):S b:=by
 induction h with
 | here=>exact ha
 | on _ t ih=>exact hc _ t ih
open Classical in
noncomputable def rch (ns:List Str) (ps:List (Str × Str)) (a:Str):List Str:=srt (ns.filter fun z=>decide (Rch ps a z))
theorem perm_of {α:Type} [DecidableEq α]:∀ {l m:List α},l.Nodup->m.Nodup->(∀ x,x∈l ↔ x∈m)->l.Perm m:=fun hl hm h=>(List.perm_ext_iff_of_nodup hl hm).mpr h
theorem srt_same {l m:List Str} (hl:l.Nodup) (hm:m.Nodup) (h:∀ x,x∈l ↔ x∈m):srt l=srt m :=
 srt_of ((srt_perm l).trans (perm_of hl hm h)) (srt_pw l)
theorem srt_mem {l:List Str} {x:Str}:x∈srt l ↔ x∈l:=(srt_perm l).mem_iff
theorem srt_nd {l:List Str} (h:l.Nodup):(srt l).Nodup:=(srt_perm l).nodup_iff.mpr h
theorem rch_mem {ns:List Str} {ps:List (Str × Str)} {a z:Str}:z∈rch ns ps a ↔ z∈ns/\Rch ps a z:=by
 unfold rch
 rw [srt_mem,List.mem_filter]
 simp
theorem rch_len {ns:List Str} {ps:List (Str × Str)} {a:Str}:(rch ns ps a).length<=ns.length:=by
 unfold rch
 rw [srt_len]
 exact List.length_filter_le _ _
theorem rch_of {ns zs:List Str} {ps:List (Str × Str)} {a:Str} (hn:ns.Nodup) (hz:zs.Nodup) (hi:∀ p∈ps,p.1∈ns/\p.2∈ns) (ha:a∈ns) (h:∀ z,z∈zs ↔ Rch ps a z):srt zs=rch ns ps a:=by
 refine srt_same hz (hn.filter _) fun x=>?_
 rw [h,List.mem_filter]
 simp only [decide_eq_true_eq]
 exact ⟨fun r=>⟨r.isin hi ha,r⟩,fun r=>r.2⟩
theorem rch_srt {ns:List Str} {ps:List (Str × Str)} {a:Str} (hn:ns.Nodup):rch (srt ns) ps a=rch ns ps a:=by
 unfold rch
 refine srt_same ((srt_nd hn).filter _) (hn.filter _) fun x=>?_
 rw [List.mem_filter,List.mem_filter,srt_mem]
def outs (ps:List (Str × Str)) (a:Str):List Str:=(ps.filter fun p=>decide (p.1=a)).map (·.2)
theorem outs_mem {ps:List (Str × Str)} {a b:Str}:b∈outs ps a ↔ (a,b)∈ps:=by
 unfold outs
 rw [List.mem_map]
 constructor
 ·rintro ⟨p,hp,rfl⟩
  obtain ⟨h1,h2⟩:=List.mem_filter.mp hp
  have:p.1=a:=by simpa using h2
  rw [<- this];exact h1
 ·intro h
  exact ⟨(a,b),List.mem_filter.mpr ⟨h,by simp⟩,rfl⟩
theorem outs_snoc (ps:List (Str × Str)) (p:Str × Str) (a:Str):outs (ps++[p]) a=if p.1=a then outs ps a++[p.2] else outs ps a:=by
 unfold outs
 rw [List.filter_append,List.map_append]
 by_cases h:p.1=a<;>simp [h]
theorem outs_len (ps:List (Str × Str)) (a:Str):(outs ps a).length<=ps.length:=by
 unfold outs
 rw [List.length_map]
 exact List.length_filter_le _ _
theorem nd_le {l m:List Str} (hl:l.Nodup) (h:∀ x∈l,x∈m):l.length<=m.length:=by
 induction l generalizing m with
 | nil=>exact Nat.zero_le _
 | cons x l ih =>
  rw [List.nodup_cons] at hl
  have hx:=h x List.mem_cons_self
  have q:=ih (m:=m.erase x) hl.2 fun y hy=>(List.mem_erase_of_ne (fun e:y=x=>hl.1 (e ▸ hy))).mpr (h y (List.mem_cons_of_mem _ hy))
  rw [List.length_erase_of_mem hx] at q
  have:0 < m.length:=List.length_pos_of_mem hx
  simp only [List.length_cons]
  omega
end L2
namespace K22
open PySem PySem.Spec PyProof.Rows L2
abbrev sChkPl:Stmt:=top 26 -- check_place
abbrev sLeads:Stmt:=top 28 -- leads
abbrev sSpread:Stmt:=top 30 -- spread
abbrev sReached:Stmt:=top 31 -- reached
section
variable {P:Program} {w:World} {K:PySem.W.Frag} {mg:Str->Option Value} {base:Heap}
structure StepsL (H:Hp) (d:Addr) (ns:List Str) (ps:List (Str × Str)) (ls:List Addr):Prop where
 len:ls.length=ns.length
 nd:ls.Nodup
 hd:H d=some (.dK (tab ns ls))
 at_:∀ (i:Nat) z l,ns[i]?=some z->ls[i]?=some l->H l=some (.lst ((outs ps z).map V.str))
theorem StepsL.same {H H':Hp} {d:Addr} {ns:List Str} {ps:List (Str × Str)} {ls:List Addr} (h:StepsL H d ns ps ls) (s:Same H H'):StepsL H' d ns ps ls:=⟨h.len,h.nd,s _ _ h.hd,fun i z l e1 e2=>s _ _ (h.at_ i z l e1 e2)⟩
theorem StepsL.get {H:Hp} {d:Addr} {ns:List Str} {ps:List (Str × Str)} {ls:List Addr} (h:StepsL H d ns ps ls) (nd:ns.Nodup) {z:Str} (hz:z∈ns):∃ (i:Nat) (l:Addr),ns[i]?=some z/\ls[i]?=some l/\valV (tab ns ls) (Sum.inr z:Key)=some (.ref l)/\H l=some (.lst ((outs ps z).map V.str)):=by
 obtain ⟨i,hi,e⟩:=List.getElem_of_mem hz
 have e1:ns[i]?=some z:=by rw [List.getElem?_eq_getElem hi,e]
 have hl:i < ls.length:=by rw [h.len];exact hi
 have e2:ls[i]?=some ls[i]:=List.getElem?_eq_getElem hl
 exact ⟨i,ls[i],e1,e2,tab_at nd e1 e2,h.at_ i z _ e1 e2⟩
def spLeads:Sp:=fun vs H Q _=>∃ (p t:Addr) (ns:List Str) (ts:List Addr) (ps:List (Str × Str)),vs=[.ref p,.ref t]/\H p=some (.lst (ns.map V.str))/\H t=some (.lst (ts.map V.ref))/\TiesAt H ts ps/\ns.Nodup/\ns.length<=12/\InP ns ps/\ps.length<=1000 /\
 ∀ (d:Addr) (ls:List Addr) (H':Hp),StepsL H' d ns ps ls->Same H H'->Q (.ref d) H'
abbrev nLe:List Str:=["places","ties","steps","a","b"]
theorem scLe:FnScope nLe ["places","ties"] (defScope sLeads):=⟨rfl,rfl,rfl,by decide +kernel,rfl,by decide +kernel,by decide +kernel⟩
theorem ok_leads {f:Addr} {fd:FuncData} (F:Fun K "leads" "leads" sLeads f fd) (T:Glb mg):FnOk P w K mg base CX0 1 f fd ["places","ties"] spLeads:=by
 refine F.ok scLe (fun vs H Q E h=>?_) (fun cdv A outer s H vs Q E hr h=>?_)
 ·obtain ⟨p,t,ns,ts,ps,rfl,_⟩:=h
  rfl
 ·obtain ⟨p,t,ns,ts,ps,rfl,hp,ht,hT,nd,few,hI,many,k⟩:=h
  have hu:=hu_of hr
  refine ⟨_,pss_cons (ps_setD (i:=2) ["place"] [] scLe.nd rfl rfl rfl (compSc (osc:=(defScope sLeads).names) (N:=nLe) rfl rfl (by decide +kernel)) (gk_name (by decide)) (pi_list (pv 0))
     (fun _ _ _=>pg_name (i:=0) (show (["place"]:List Str).Nodup by decide +kernel) rfl (Or.inl rfl)) (fun _ _ _=>pifs_nil) (fun _ _ _=>pv 0) (fun _ _ _=>pe_lst pa_nil))
   (pss_cons (ps_for PassesOwn.never rfl (pi_list (pv 1)) (pg_tup rfl (pgs_cons (pg_name (i:=3) scLe.nd rfl (Or.inl rfl)) (pgs_cons (pg_name (i:=4) scLe.nd rfl (Or.inl rfl)) pgs_nil)))
    (pss_one (ps_expr (pe_bm PySem.F.plainAttrs_list PySem.F.slot_list_append PySem.F.type_list_append mt_append (pe_dget hu (pv 2) (pv 3) (fun _ _=>rfl)) (pa_cons (pv 4) pa_nil)))))
   (pss_one (ps_ret (pv 2)))),?_⟩
  refine ⟨_,rfl,p,rfl,⟨_,SqL.of hp⟩,dc_list (K:=K) (xs:=ns.map V.str) (fun i kvs H2=>Same H H2/\∃ ls:List Addr,ls.length=i/\ls.Nodup/\kvs=tab (ns.take i) ls/\∀ l∈ls,H l=none/\H2 l=some (.lst [])) ⟨Same.refl _,[],rfl,List.nodup_nil,rfl,fun _ z=>nomatch z⟩ ?_ ?_ ?_ ?_⟩
  ·rintro i kvs H2 hi ⟨_,ls,e1,_,rfl,_⟩
   rw [List.length_map] at hi
   have lt:(ns.take i).length=i:=by rw [List.length_take];omega
   rw [tab_len (by rw [e1,lt]),lt]
   exact Nat.le_of_lt (small1000 (by omega))
  ·rintro i kvs H2 _ ⟨s2,_⟩
   exact SqL.of (s2 _ _ hp)
  ·rintro i x kvs H2 R hx ⟨s2,ls,e1,nl,rfl,all⟩ kR
   rw [List.getElem?_map] at hx
   obtain ⟨z,ez,rfl⟩:=Option.map_eq_some_iff.mp hx
   have hi:i < ns.length:=(List.getElem?_eq_some_iff.mp ez).1
   have lt:(ns.take i).length=i:=by rw [List.length_take];omega
   simp only [tYes,gName,if_true]
   refine ⟨_,rfl,(by decide),fun l hl=>⟨Sum.inr z,rfl,kR _ _ ?_⟩⟩
   have nz:z ∉ ns.take i:=fun m=>by
    obtain ⟨j,hj,e⟩:=List.getElem_of_mem m
    have hj':j < i:=by rw [lt] at hj;exact hj
    have q:ns[j]?=some z:=by
     rw [<- e,List.getElem_take,List.getElem?_eq_getElem]
    have:=nd_at nd q ez
    omega
   have nl':l ∉ ls:=fun m=>by rw [(all l m).2] at hl;cases hl
   refine ⟨s2.trans (same_upd hl),ls++[l],by simp [e1],nd_snoc nl nl',?_,fun y hy=>?_⟩
   ·rw [List.take_add_one,ez,putK_new _ (tab_none nz)]
    exact (tab_snoc z l (by rw [e1,lt])).symm
   ·rcases List.mem_append.mp hy with q | q
    ·exact ⟨(all y q).1,by rw [upd_ne (ne_of_none (all y q).2 hl)];exact (all y q).2⟩
    ·rw [List.mem_singleton.mp q];exact ⟨s2.free hl,upd_same⟩
  ·rintro kvs H2 ⟨s2,ls,e1,nl,rfl,all⟩ d hd
   rw [List.length_map] at e1 ⊢
   rw [List.take_of_length_le (Nat.le_refl _)]
   have hS:StepsL (upd H2 d (.dK (tab ns ls))) d ns [] ls:=⟨e1,nl,upd_same,fun i z l _ el=>by
    have:=(all l (List.mem_of_getElem? el)).2
    rw [upd_ne (ne_of_none this hd)];exact this⟩
   have s3:Same H (upd H2 d (.dK (tab ns ls))):=s2.trans (same_upd hd)
   generalize upd H2 d (.dK (tab ns ls))=H3 at hS s3 ⊢
   refine ⟨_,rfl,t,rfl,⟨_,SqL.of (s3 _ _ ht)⟩,for_list (K:=K) (xs:=ts.map V.ref) (fun i σ H4=>∃ v3 v4,σ=[some (V.ref p),some (V.ref t),some (V.ref d),v3,v4]/\Same H H4/\StepsL H4 d ns (ps.take i) ls) ⟨_,_,rfl,s3,by rw [List.take_zero];exact hS⟩ ?_ ?_ ?_⟩
   ·rintro i σ H4 _ ⟨v3,v4,rfl,s4,_⟩
    exact SqL.of (s4 _ _ ht)
   ·rintro i y σ H4 hy ⟨v3,v4,rfl,s4,S4⟩
    rw [List.getElem?_map] at hy
    obtain ⟨u,eu,rfl⟩:=Option.map_eq_some_iff.mp hy
    obtain ⟨pr,ep,hpr⟩:=hT.get eu
    obtain ⟨i1,i2⟩:=hI pr (List.mem_of_getElem? ep)
    refine ⟨u,_,rfl,SqT.of (s4 _ _ hpr),rfl,_,_,rfl,_,_,rfl,rfl,?_⟩
    obtain ⟨j,l,j1,j2,j3,j4⟩:=S4.get nd i1
    refine ⟨_,rfl,_,rfl,d,_,rfl,(show DGet H4 d (.str pr.1) (some (.ref l)) from j3 ▸ DGet.k (k:=Sum.inr pr.1) S4.hd),.inl ⟨rfl,_,SqL.of j4⟩,_,rfl,l,_,_,rfl,rfl,j4,?_,?_⟩
    ·rw [List.length_map]
     refine small1000 (Nat.le_trans (outs_len _ _) (Nat.le_trans ?_ many))
     rw [List.length_take];exact Nat.min_le_right _ _
    ·have hl0:H l=none:=(all l (List.mem_of_getElem? j2)).1
     refine ⟨_,_,rfl,Same.upd_new s4 hl0,S4.len,S4.nd,?_,fun i' z' l' e1' e2'=>?_⟩
     ·rw [upd_ne (ne_of S4.hd j4 (by intro z;cases z))];exact S4.hd
     ·rw [List.take_add_one,ep]
      show _=some (HO.lst ((outs (ps.take i++[pr]) z').map V.str))
      rw [outs_snoc]
      by_cases e:i'=j
      ·subst e
       rw [j1] at e1';rw [j2] at e2'
       cases e1';cases e2'
       rw [upd_same,if_pos rfl];simp
      ·have nl':l'≠l:=fun q=>e (nd_at nl (q ▸ e2') j2)
       have nz':¬ pr.1=z':=fun q=>e (nd_at nd (q ▸ e1') j1)
       rw [upd_ne nl',if_neg nz']
       exact S4.at_ i' z' l' e1' e2'
   ·rintro σ H4 ⟨v3,v4,rfl,s4,S4⟩
    rw [List.length_map,hT.len,List.take_of_length_le (Nat.le_refl _)] at S4
    exact ⟨_,rfl,k d ls H4 S4 s4⟩
end
structure Fl (ns:List Str) (ps:List (Str × Str)) (a:Str) (zs hs:List Str):Prop where
 nd:zs.Nodup
 sub:∀ z∈zs,z∈ns
 rch:∀ z∈zs,Rch ps a z
 hsub:∀ z∈hs,z∈zs
 hnd:hs.Nodup
theorem Fl.more {ns:List Str} {ps:List (Str × Str)} {a b c:Str} {zs hs:List Str} (F:Fl ns ps a zs hs) (hi:InP ns ps) (hb:b∈zs) (t:(b,c)∈ps) (n:c ∉ zs):Fl ns ps a (zs++[c]) (hs++[c]) where
 nd:=nd_snoc F.nd n
 sub:=fun z hz=>(List.mem_append.mp hz).elim (F.sub z) fun e=>by rw [List.mem_singleton.mp e];exact (hi _ t).2
 rch:=fun z hz=>(List.mem_append.mp hz).elim (F.rch z) fun e=>by rw [List.mem_singleton.mp e];exact (F.rch b hb).on t
 hsub:=fun z hz=>(List.mem_append.mp hz).elim (fun h=>List.mem_append_left _ (F.hsub z h)) fun e=>List.mem_append_right _ e
 hnd:=nd_snoc F.hnd fun m=>n (F.hsub c m)
def kz (zs:List Str):List (Key × V):=zs.map fun z=>(Sum.inr z,V.bl true)
theorem kz_val (zs:List Str) (z:Str):valV (kz zs) (Sum.inr z:Key)=if z∈zs then some (.bl true) else none:=by
 induction zs with
 | nil=>rfl
 | cons y r ih =>
  by_cases e:y=z
  ·subst e
   rw [if_pos List.mem_cons_self]
   exact valV_pos rfl
  ·show valV ((Sum.inr y,V.bl true)::kz r) _=_
   rw [valV_neg (fun q=>e (Sum.inr.inj q)),ih]
   have:z∈y::r ↔ z∈r:=by
    rw [List.mem_cons]
    exact ⟨fun h=>h.resolve_left fun q=>e q.symm,Or.inr⟩
   by_cases h:z∈r
   ·rw [if_pos h,if_pos (this.mpr h)]
   ·rw [if_neg h,if_neg fun q=>h (this.mp q)]
theorem kz_put {zs:List Str} {z:Str} (h:z ∉ zs):putK (kz zs) (Sum.inr z:Key) (.bl true)=kz (zs++[z]):=by
 rw [putK_new _ (by rw [kz_val,if_neg h])]
 simp [kz]
theorem kz_txt (zs:List Str):KTxt (kz zs) zs:=by simp [KTxt,kz]
section
variable {P:Program} {w:World} {K:PySem.W.Frag} {mg:Str->Option Value} {base:Heap}
def spSpread:Sp:=fun vs H Q _=>∃ (d:Addr) (a:Str) (ns:List Str) (ps:List (Str × Str)) (ls:List Addr),vs=[.ref d,.str a]/\StepsL H d ns ps ls/\ns.Nodup/\ns.length<=12/\InP ns ps/\ps.length<=1000/\a∈ns /\
 ∀ (l:Addr) (H':Hp),H l=none->H' l=some (.lst ((rch ns ps a).map V.str))->Same H H'->Q (.ref l) H'
abbrev nSp:List Str:=["steps","start","seen","ahead","place","after"]
theorem scSp:FnScope nSp ["steps","start"] (defScope sSpread):=⟨rfl,rfl,rfl,by decide +kernel,rfl,by decide +kernel,by decide +kernel⟩
def SpW (d se ah:Addr) (a:Str) (ns:List Str) (ps:List (Str × Str)) (H:Hp) (m:Nat) (σ:L2.St) (H2:Hp):Prop :=
 ∃ (v4 v5:Option V) (zs hs:List Str),σ=[some (.ref d),some (.str a),some (.ref se),some (.ref ah),v4,v5]/\Same H H2/\H2 se=some (.dK (kz zs))/\H2 ah=some (.lst (hs.map V.str))/\Fl ns ps a zs hs/\a∈zs /\
  (∀ z∈zs,z ∉ hs->∀ b∈outs ps z,b∈zs)/\m=2 * (ns.length - zs.length)+hs.length
theorem ok_spread {f:Addr} {fd:FuncData} (F:Fun K "spread" "spread" sSpread f fd) (T:Glb mg):FnOk P w K mg base CX0 1 f fd ["steps","start"] spSpread:=by
 refine F.ok scSp (fun vs H Q E h=>?_) (fun cdv A outer s H vs Q E hr h=>?_)
 ·obtain ⟨d,a,ns,ps,ls,rfl,_⟩:=h
  rfl
 ·obtain ⟨d,a,ns,ps,ls,rfl,hS,nd,few,hI,many,ha,k⟩:=h
  have hu:=hu_of hr
  refine ⟨_,pss_cons (ps_set (i:=2) scSp.nd rfl (Or.inl rfl) (pe_disp (pps_cons (pv 1) pe_bl pps_nil) rfl rfl (by intro z;cases z) (by decide)))
   (pss_cons (ps_set (i:=3) scSp.nd rfl (Or.inl rfl) (pe_lst (pa_cons (pv 1) pa_nil)))
   (pss_cons (ps_while PassesOwn.never (pt_truth (pv 3) (fun _=>rfl))
    (pss_cons (ps_set (i:=4) scSp.nd rfl (Or.inl rfl) (pe_bm0 PySem.F.plainAttrs_list PySem.F.slot_list_pop PySem.F.type_list_pop mt_pop (pv 3)))
    (pss_one (ps_for PassesOwn.never rfl (pi_list (pe_dget hu (pv 0) (pv 4) (fun _ _=>rfl))) (pg_name (i:=5) scSp.nd rfl (Or.inl rfl))
     (pss_one (ps_if (pt_cmp (pc_dnotin hu (pv 5) (pv 2)))
      (pss_cons (ps_dput hu (pv 2) (pv 5) pe_bl rfl)
      (pss_one (ps_expr (pe_bm PySem.F.plainAttrs_list PySem.F.slot_list_append PySem.F.type_list_append mt_append (pv 3) (pa_cons (pv 5) pa_nil))))) pss_nil))))))
   (pss_one (ps_ret (pe_callB (call_sorted_dk rfl) (by rfl) T.sorted boot_sorted (pa_cons (pv 2) pa_nil)))))),?_⟩
  intro se hse
  refine ⟨_,rfl,upd_same,[(Sum.inr a,V.bl true)],rfl,(by show 1<=15;decide),?_⟩
  rw [upd_upd,show mergeK [] [((Sum.inr a:Key),V.bl true)]=kz [a] from rfl]
  have s1:=same_upd (o:=.dK (kz [a])) hse
  have hse1:=upd_same (H:=H) (a:=se) (o:=.dK (kz [a]))
  generalize upd H se (.dK (kz [a]))=H1 at s1 hse1 ⊢
  refine ⟨_,rfl,(by show 1<=sizeLine;decide),fun ah hah=>?_⟩
  have hah0:H ah=none:=s1.free hah
  have nsa:se≠ah:=ne_of_none hse1 hah
  refine ⟨SpW d se ah a ns ps H,⟨_,_,_,[a],[a],rfl,s1.trans (same_upd hah),by rw [upd_ne nsa];exact hse1,upd_same,?_,List.mem_singleton.mpr rfl,fun z hz n=>absurd hz n,rfl⟩,?_⟩
  ·exact ⟨by simp,fun z hz=>by rw [List.mem_singleton.mp hz];exact ha,fun z hz=>by rw [List.mem_singleton.mp hz];exact .here _,fun z hz=>hz,by simp⟩
  rintro m σ H2 ⟨v4,v5,zs,hs,rfl,s2,hse2,hah2,FL,az,cl,rfl⟩
  refine ⟨_,rfl,_,.inl ⟨_,SqL.of hah2,rfl⟩,?_⟩
  have S2:=hS.same s2
  have zle:zs.length<=ns.length:=nd_le FL.nd FL.sub
  have hnodup:True:=trivial
  refine ite2 (fun hne=>?_) (fun hem=>?_)
  ·-- a turn
   have hpos:hs≠[]:=fun e=>by rw [e] at hne;simp at hne
   obtain ⟨hs0,pl,rfl⟩:∃ hs0 pl,hs=hs0++[pl]:=⟨hs.dropLast,hs.getLast hpos,(List.dropLast_concat_getLast hpos).symm⟩
   refine ⟨fun σ' H'=>∃ m',m' < 2 * (ns.length - zs.length)+(hs0++[pl]).length/\SpW d se ah a ns ps H m' σ' H',fun σ' H' h=>h,?_⟩
   refine ⟨_,rfl,.inl ⟨rfl,_,SqL.of hah2⟩,ah,_,.str pl,rfl,rfl,hah2,(by simp),?_⟩
   have eh:((hs0++[pl]).map V.str).dropLast=hs0.map V.str:=by simp
   rw [eh]
   have nah:se≠ah:=ne_of hse2 hah2 (by intro z;cases z)
   have s3:Same H (upd H2 ah (.lst (hs0.map V.str))):=Same.upd_new s2 hah0
   have hse3:(upd H2 ah (.lst (hs0.map V.str))) se=some (.dK (kz zs)):=by rw [upd_ne nah];exact hse2
   have hah3:=upd_same (H:=H2) (a:=ah) (o:=.lst (hs0.map V.str))
   generalize upd H2 ah (.lst (hs0.map V.str))=H3 at s3 hse3 hah3 ⊢
   have plz:pl∈zs:=FL.hsub pl (by simp)
   have S3:=hS.same s3
   obtain ⟨j,l,j1,j2,j3,j4⟩:=S3.get nd (FL.sub pl plz)
   refine ⟨_,rfl,_,rfl,d,_,rfl,(show DGet H3 d (.str pl) (some (.ref l)) from j3 ▸ DGet.k (k:=Sum.inr pl) S3.hd),l,rfl,⟨_,SqL.of j4⟩,?_⟩
   have hl0:=hS.at_ j pl l j1 j2
   refine for_list (K:=K) (xs:=(outs ps pl).map V.str) (fun i σ H4=>∃ (v5:Option V) (zs4 hs4:List Str),σ=[some (.ref d),some (.str a),some (.ref se),some (.ref ah),some (.str pl),v5]/\Same H H4/\H4 se=some (.dK (kz zs4))/\H4 ah=some (.lst (hs4.map V.str))/\Fl ns ps a zs4 hs4/\(∀ z∈zs,z∈zs4) /\
     (∀ z∈zs4,z ∉ hs4->z≠pl->∀ b∈outs ps z,b∈zs4)/\(∀ b∈(outs ps pl).take i,b∈zs4)/\2 * (ns.length - zs4.length)+hs4.length < 2 * (ns.length - zs.length)+(hs0++[pl]).length/\zs4.length<=ns.length)
    ⟨_,zs,hs0,rfl,s3,hse3,hah3,⟨FL.nd,FL.sub,FL.rch,fun z hz=>FL.hsub z (List.mem_append_left _ hz),(List.nodup_append.mp FL.hnd).1⟩,fun z hz=>hz,?_,fun b hb=>by simp at hb,by simp,zle⟩ ?_ ?_ ?_
   ·intro z hz n1 n2
    exact cl z hz fun q=>(List.mem_append.mp q).elim n1 fun e=>n2 (List.mem_singleton.mp e)
   ·rintro i σ H4 _ ⟨v5,zs4,hs4,rfl,s4,_⟩
    exact SqL.of (s4 _ _ hl0)
   ·rintro i y σ H4 hy ⟨v5,zs4,hs4,rfl,s4,hse4,hah4,F4,sub4,cl4,seen4,m4,le4⟩
    rw [List.getElem?_map] at hy
    obtain ⟨b,eb,rfl⟩:=Option.map_eq_some_iff.mp hy
    have hb:b∈outs ps pl:=List.mem_of_getElem? eb
    have tb:(pl,b)∈ps:=outs_mem.mp hb
    have ebt:(outs ps pl).take (i+1)=(outs ps pl).take i++[b]:=by rw [List.take_add_one,eb];rfl
    refine ⟨_,rfl,_,rfl,se,_,rfl,DGet.k (k:=Sum.inr b) hse4,_,rfl,?_⟩
    rw [kz_val]
    by_cases hin:b∈zs4
    ·rw [if_pos hin]
     refine iteF ⟨_,zs4,hs4,rfl,s4,hse4,hah4,F4,sub4,cl4,fun y hy=>?_,m4,le4⟩
     rw [ebt] at hy
     exact (List.mem_append.mp hy).elim (seen4 y) fun e=>by rw [List.mem_singleton.mp e];exact hin
    ·rw [if_neg hin]
     have le5:(zs4++[b]).length<=ns.length:=nd_le (F4.more hI (sub4 pl plz) tb hin).nd (F4.more hI (sub4 pl plz) tb hin).sub
     refine iteT ⟨_,rfl,_,rfl,se,_,rfl,DPut.k (k:=Sum.inr b) hse4 (by simp only [kz,List.length_map];exact small1000 (by omega)),?_⟩
     rw [kz_put hin]
     have nsa4:se≠ah:=nah
     have hah5:(upd H4 se (.dK (kz (zs4++[b])))) ah=some (.lst (hs4.map V.str)):=by rw [upd_ne (Ne.symm nsa4)];exact hah4
     have hl4:hs4.length<=1000:=by
      have:=nd_le F4.hnd F4.hsub
      omega
     refine ⟨_,rfl,.inl ⟨rfl,_,SqL.of hah5⟩,_,rfl,ah,_,_,rfl,rfl,hah5,(by rw [List.length_map];exact small1000 hl4),?_⟩
     refine ⟨_,zs4++[b],hs4++[b],rfl,Same.upd_new (Same.upd_new s4 hse) hah0,by rw [upd_ne nsa4,upd_same],by rw [upd_same];simp,F4.more hI (sub4 pl plz) tb hin,fun z hz=>List.mem_append_left _ (sub4 z hz),fun z hz n1 n2 c hc=>?_,fun y hy=>?_,?_,le5⟩
     ·rcases List.mem_append.mp hz with q | q
      ·exact List.mem_append_left _ (cl4 z q (fun e=>n1 (List.mem_append_left _ e)) n2 c hc)
      ·exact absurd (List.mem_append_right _ q) n1
     ·rw [ebt] at hy
      exact (List.mem_append.mp hy).elim (fun q=>List.mem_append_left _ (seen4 y q)) fun e=>List.mem_append_right _ e
     ·simp only [List.length_append,List.length_singleton] at m4 le5 ⊢
      omega
   ·rintro σ H4 ⟨v5,zs4,hs4,rfl,s4,hse4,hah4,F4,sub4,cl4,seen4,m4,le4⟩
    rw [List.length_map,List.take_of_length_le (Nat.le_refl _)] at seen4
    refine ⟨_,m4,_,_,zs4,hs4,rfl,s4,hse4,hah4,F4,sub4 a az,fun z hz n b hb=>?_,rfl⟩
    by_cases e:z=pl
    ·subst e;exact seen4 b hb
    ·exact cl4 z hz n e b hb
  ·-- the end
   have he:hs=[]:=by
    cases hs with
    | nil=>rfl
    | cons x r=>simp at hem
   subst he
   have all:∀ z,z∈zs ↔ Rch ps a z:=fun z=>⟨FL.rch z,fun r=>r.stays (S:=(·∈zs)) az fun p hp h1=>cl p.1 h1 (by simp) p.2 (outs_mem.mpr hp)⟩
   refine ⟨_,rfl,se,_,zs,rfl,hse2,kz_txt zs,by omega,fun l hl=>?_⟩
   rw [rch_of nd FL.nd hI ha all]
   exact k l _ (s2.free hl) upd_same (s2.trans (same_upd hl))
end
abbrev sTurned:Stmt:=top 29 -- turned_pairs
abbrev sReachers:Stmt:=top 32 -- reachers
def turn (ps:List (Str × Str)):List (Str × Str):=ps.map fun p=>(p.2,p.1)
theorem turn_mem {ps:List (Str × Str)} {a b:Str}:(a,b)∈turn ps ↔ (b,a)∈ps:=by
 unfold turn
 rw [List.mem_map]
 constructor
 ·rintro ⟨p,hp,e⟩
  cases e
  exact hp
 ·intro h
  exact ⟨_,h,rfl⟩
theorem turn_turn (ps:List (Str × Str)):turn (turn ps)=ps:=by
 unfold turn
 rw [List.map_map]
 exact List.map_id' _
theorem Rch.turned {ps:List (Str × Str)} {a b:Str} (h:Rch ps a b):Rch (turn ps) b a:=by
 induction h with
 | here=>exact .here _
 | on h t ih=>exact (Rch.one (turn_mem.mpr t)).trans ih
theorem rch_turn {ps:List (Str × Str)} {a b:Str}:Rch (turn ps) b a ↔ Rch ps a b:=⟨fun h=>by have:=Rch.turned h;rw [turn_turn] at this;exact this,Rch.turned⟩
theorem turn_in {ns:List Str} {ps:List (Str × Str)} (h:InP ns ps):InP ns (turn ps):=fun p hp=>by
 obtain ⟨q,hq,rfl⟩:=List.mem_map.mp hp
 exact ⟨(h q hq).2,(h q hq).1⟩
theorem turn_len (ps:List (Str × Str)):(turn ps).length=ps.length:=List.length_map ..
section
variable {P:Program} {w:World} {K:PySem.W.Frag} {mg:Str->Option Value} {base:Heap}
def spTurned:Sp:=fun vs H Q _=>∃ (b:Addr) (ts:List Addr) (ps:List (Str × Str)),vs=[.ref b]/\H b=some (.lst (ts.map V.ref))/\TiesAt H ts ps/\ps.length<=1000 /\
 ∀ (l:Addr) (us:List Addr) (H':Hp),H l=none->H' l=some (.lst (us.map V.ref))->TiesAt H' us (turn ps)->Same H H'->Q (.ref l) H'
theorem scTu:FnScope ["ties"] ["ties"] (defScope sTurned):=⟨rfl,rfl,rfl,by decide +kernel,rfl,by decide +kernel,by decide +kernel⟩
theorem lc_turn {b:Addr} {ts:List Addr} {ps:List (Str × Str)} {H:Hp} {Q:VK} {σ:L2.St} {fr:List Nat} {o1 o2:Str} (hb:H b=some (.lst (ts.map V.ref))) (hT:TiesAt H ts ps) (few:ps.length<=1000)
  (k:∀ (l:Addr) (us:List Addr) (H':Hp),H l=none->H' l=some (.lst (us.map V.ref))->TiesAt H' us (turn ps)->Same H H'->Q (.ref l) H') :
  lcLoop [o1,o2] fr (gTup K 2 (gCons (gName 0) (gCons (gName 1) gNil))) tYes (tTup (tCons (tVar 1) (tCons (tVar 0) tNil))) σ Q (Itl K b) H:=by
 have le:(ts.map V.ref).length=ps.length:=by rw [List.length_map,hT.len]
 refine lc_list (K:=K) (xs:=ts.map V.ref) (fun i ys H5=>Same H H5/\∃ us:List Addr,ys=us.map V.ref/\us.length=i/\TiesAt H5 us (turn (ps.take i))) ⟨Same.refl _,[],rfl,rfl,.nil⟩ ?_ ?_ ?_ ?_
 ·rintro i ys H5 hi ⟨_,us,rfl,e,_⟩
  rw [List.length_map,e]
  rw [le] at hi
  exact Nat.le_trans hi (Nat.le_trans few (by decide))
 ·rintro i ys H5 _ ⟨s5,_⟩
  exact SqL.of (s5 _ _ hb)
 ·rintro i y ys H5 R hy ⟨s5,us,rfl,e,hU⟩ kR
  rw [List.getElem?_map] at hy
  obtain ⟨t,et,rfl⟩:=Option.map_eq_some_iff.mp hy
  obtain ⟨p,ep,ht⟩:=hT.get et
  refine ⟨t,_,rfl,SqT.of (s5 _ _ ht),rfl,_,_,rfl,_,_,rfl,rfl,?_⟩
  simp only [tYes,if_true]
  refine ⟨_,rfl,_,rfl,(by show 2<=sizeLine;decide),fun u hu=>?_⟩
  have e2:us.map V.ref++[V.ref u]=(us++[u]).map V.ref:=by simp
  refine kR _ _ ⟨s5.trans (same_upd hu),us++[u],e2,by simp [e],?_⟩
  rw [List.take_add_one,ep]
  unfold turn
  rw [List.map_append]
  exact TiesAt.snoc (hU.same (same_upd hu)) upd_same
 ·rintro ys H5 ⟨s5,us,rfl,e,hU⟩ D hD
  rw [le,List.take_length] at hU
  exact k D us _ (s5.free hD) upd_same (hU.same (same_upd hD)) (s5.trans (same_upd hD))
theorem ok_turned {f:Addr} {fd:FuncData} (F:Fun K "turned_pairs" "turned_pairs" sTurned f fd) (T:Glb mg):FnOk P w K mg base CX0 1 f fd ["ties"] spTurned:=by
 refine F.ok scTu (fun vs H Q E h=>?_) (fun cdv A outer s H vs Q E hr h=>?_)
 ·obtain ⟨b,ts,ps,rfl,_⟩:=h
  rfl
 ·obtain ⟨b,ts,ps,rfl,hb,hT,few,k⟩:=h
  refine ⟨_,pss_one (ps_ret (pe_lc ["a","b"] [] rfl (compSc (osc:=(defScope sTurned).names) (N:=["ties"]) rfl rfl (by decide +kernel)) (gk_two (k:=2) (by decide) (by decide)) (pi_list (pv 0))
    (fun _ _ _=>pg_tup (n:=2) rfl (pgs_cons (pg_name (i:=0) (show (["a","b"]:List Str).Nodup by decide +kernel) rfl (Or.inl rfl)) (pgs_cons (pg_name (i:=1) (show (["a","b"]:List Str).Nodup by decide +kernel) rfl (Or.inl rfl)) pgs_nil))) (fun _ _ _=>pifs_nil)
    (fun _ _ _=>pe_tup (pa_cons (pv 1) (pa_cons (pv 0) pa_nil))))),?_⟩
  exact ⟨_,rfl,b,rfl,⟨_,SqL.of hb⟩,lc_turn hb hT few k⟩
end
end K22
namespace L2
open PySem PySem.Spec PyProof.Rows
section
variable {prog:Program} {w:World} {K:Type} [DecidableEq K] {knd:KeyKind prog w K} {A:Around} {E:Value->Shared->Prop} {s:Shared}
theorem dict_dict {o:Addr} {more:List (K × Value)} {Q:Value->Shared->Prop} (hoS:(o == sysModules)=false) (ho:s.heap.DictOf knd o more) (few:more.length<=1000)
  (h:∀ h',h'.DictOf knd s.heap.objs.size more->(∀ b o,s.heap.get? b=some o->h'.get? b=some o)->Q (.ref s.heap.objs.size) { s with heap:=h' }) :
  wpAny (model prog w) A (call (.type "dict") [.ref o]) Q E s:=by
 refine callType_codes (Q₁:=fun obj s₁=>obj=.ref s.heap.objs.size/\s₁={ s with heap:=s.heap.push { cls:=.type "dict",data:=.dict #[] } }) F.kt_called_dict (F.kt_typeCall_dict_1 _) F.entry_dict_init (kt_code_dict_new _ ⟨rfl,rfl⟩) ?_
 rintro obj s₁ ⟨rfl,rfl⟩
 have new:(s.heap.push { cls:=.type "dict",data:=.dict #[] }).DictOf knd s.heap.objs.size []:=Heap.DictOf.new s.heap
 have kp1:∀ b o,s.heap.get? b=some o->(s.heap.push { cls:=.type "dict",data:=.dict #[] }).get? b=some o:=fun b o e=>Heap.get?_push_of_some _ e
 have ho1:=ho.push { cls:=.type "dict",data:=.dict #[] }
 have lt:@LT.lt Nat _ o s.heap.objs.size:=by
  obtain ⟨_,_,_,e,_⟩:=ho
  exact Heap.lt_size e
 have nd:(more.map (·.1)).Nodup:=by
  obtain ⟨_,_,_,_,_,_,_,_,n⟩:=ho
  exact n
 generalize s.heap.push { cls:=.type "dict",data:=.dict #[] }=h1 at new kp1 ho1 ⊢
 refine ⟨new.typeIs,F.args_dict_init_2 _ _,?_⟩
 unfold Builtin.«dict.__init__»
 refine wpAny_bind ?_
 unfold Builtin.Dict.selfAndRest
 refine wpAny_bind (wpAny_notOrdered_dict new.typeIs ?_)
 show wpAny _ _ (pure (s.heap.objs.size,[Value.ref o])) _ _ _
 refine wpAny_pure ?_
 show wpAny _ _ (Builtin.Dict.updateFrom "dict.__init__" s.heap.objs.size (.ref o) [] .none) _ _ _
 unfold Builtin.Dict.updateFrom
 refine wpAny_bind (wpAny_typeOf ho1.typeIs ?_)
 rw [if_neg (by decide)]
 refine wpAny_bind ?_
 unfold Builtin.Dict.merge
 refine wpAny_bind ?_
 unfold Builtin.Dict.readDirectly
 refine wpAny_bind (wpAny_isInstance ho1.typeIs isSubtype_dict_dict ?_)
 simp only [Bool.not_true,Bool.false_eq_true,if_false]
 refine wpAny_bind (wpAny_specialOf ho1.typeIs F.slot_dict_iter.lookup (wpAny_pure ?_))
 simp only [beq_self_eq_true,if_true]
 refine wpAny_bind (wpAny_pure ?_)
 refine wpAny_mergeDict (hsz:=by simp;exact Nat.le_trans few (by decide)) (fun e=>absurd lt (by rw [e];exact Nat.lt_irrefl _)) hoS new ho1 fun h' hd' ho' hs'=>?_
 show wpAny _ _ (Builtin.Dict.addKeywords _ [] >>= _) _ _ _
 refine wpAny_bind (wpAny_pure (wpAny_pure ⟨rfl,h h' ?_ fun b o' e=>?_⟩))
 ·rw [merged_nil_of_nodup _ nd] at hd'
  exact hd'
 ·exact (hs'.2 b (Nat.ne_of_lt (Heap.lt_size e))).trans (kp1 b o' e)
end
theorem call_dict_copy {X:Cx}:CallR X (.type "dict") (fun xs H Q=>∃ (o:Addr) (kvs:List (Key × V)),xs=[.ref o]/\H o=some (.dK kvs)/\kvs.length<=1000/\∀ d,H d=none->Q (.ref d) (upd H d (.dK kvs))):=by
 intro pins s σ H xs us Q I r h
 obtain ⟨o,kvs,rfl,ho,few,q⟩:=h
 obtain ⟨u,rfl,rx⟩:=vals1 r
 cases rx
 obtain ⟨z,hoS,vs,rel,dd⟩:=I.hok _ _ ho
 have lv:kvs.length=vs.length:=Paired.length rel
 refine dict_dict (knd:=mixKind X.prog X.w) hoS dd (by omega) fun h' dd' kp=>?_
 have no:s.heap.get? s.heap.objs.size=none:=by
  cases e:s.heap.get? s.heap.objs.size with
  | none=>rfl
  | some o=>exact absurd (Heap.lt_size e) (Nat.lt_irrefl _)
 have noH:H s.heap.objs.size=none:=I.hok.fresh (Nat.le_refl _)
 have big:=I.big
 have lo:(s.heap.objs.size == sysModules)=false:=by
  refine beq_eq_false_iff_ne.mpr fun z=>?_
  rw [z] at big
  exact absurd big (Nat.lt_irrefl _)
 exact ⟨.ref s.heap.objs.size,_,I.laidN (t':=s.toks) (o:=.dK kvs) kp no noH (dk_new z lo rel dd'),rfl,q _ noH⟩
end L2
namespace K22
open PySem PySem.Spec PyProof.Rows L2 L3
theorem GoodW.inS {ns:List Str} {ps:List (Str × Str)} (g:GoodW ns ps):InP (srt ns) ps:=fun p hp=>⟨srt_mem.mpr (g.ins p hp).1,srt_mem.mpr (g.ins p hp).2⟩
section
variable {P:Program} {w:World} {K:PySem.W.Frag} {mg:Str->Option Value} {base:Heap}
variable {C fP fS fA fC fL fTu fSp:Addr} {fdP fdS fdA fdC fdL fdTu fdSp:FuncData}
def spCk (C:Addr):Sp:=fun vs H Q _=>∃ (x:Addr) (ns:List Str) (ps:List (Str × Str)) (z:Str),vs=[.ref x,.str z]/\WebObj C H x ns ps/\z∈ns/\∀ H',Same H H'->Q .non H'
theorem scCkp:FnScope ["web","place"] ["web","place"] (defScope sChkPl):=⟨rfl,rfl,rfl,by decide +kernel,rfl,by decide +kernel,by decide +kernel⟩
theorem ok_ckp {f:Addr} {fd:FuncData} (F:Fun K "check_place" "check_place" sChkPl f fd) (M:Mt K mg C fP fS fdP fdS) (DA:Df K mg "is_among" sAmong ["places","thing"] fA fdA) (T:Glb mg):FnOk P w K mg base CX0 2 f fd ["web","place"] (spCk C):=by
 have GA:FnOk P w K mg base CX0 1 fA fdA ["places","thing"] (spAmong (K:=K)):=ok_among DA.fn T
 have GP:FnOk P w K mg base CX0 1 fP fdP ["self"] (spPl C):=ok_places M.pF M.wc T
 refine F.ok scCkp (fun vs H Q E h=>?_) (fun cdv A outer s H vs Q E hr h=>?_)
 ·obtain ⟨x,ns,ps,z,rfl,_⟩:=h
  rfl
 ·obtain ⟨x,ns,ps,z,rfl,hW,hz,k⟩:=h
  refine ⟨_,pss_one (ps_if (pt_not (pt_val (pe_call GA hr rfl DA.mgf DA.fn.kp DA.b .nil pass0 (pa_cons (pe_meth0 (pv 0) M.wc.cl M.pM GP hr M.pB .nil pass0) (pa_cons (pv 1) pa_nil))) (fun _=>rfl))) (pss_one ps_never) pss_nil),?_⟩
  obtain ⟨d1,f1,q1,r1⟩:=hW.meth "places"
  refine ⟨_,rfl,x,d1,f1,rfl,q1,r1,x,ns,ps,rfl,hW,fun l hl=>⟨_,rfl,.inl ⟨l,srt ns,z,rfl,SqL.of upd_same,_,rfl,?_⟩⟩⟩
  rw [decide_eq_true (srt_mem.mpr hz)]
  exact iteF (k _ (same_upd hl))
def spRe (C:Addr):Sp:=fun vs H Q _=>∃ (x:Addr) (ns:List Str) (ps:List (Str × Str)) (z:Str),vs=[.ref x,.str z]/\WebObj C H x ns ps/\GoodW ns ps/\z∈ns/\∀ (l:Addr) (H':Hp),H l=none->H' l=some (.lst ((rch ns ps z).map V.str))->Same H H'->Q (.ref l) H'
theorem scRea:FnScope ["web","place"] ["web","place"] (defScope sReached):=⟨rfl,rfl,rfl,by decide +kernel,rfl,by decide +kernel,by decide +kernel⟩
theorem ok_rea {f:Addr} {fd:FuncData} (F:Fun K "reached" "reached" sReached f fd) (M:Mt K mg C fP fS fdP fdS) (DA:Df K mg "is_among" sAmong ["places","thing"] fA fdA) (DC:Df K mg "check_place" sChkPl ["web","place"] fC fdC)
  (DL:Df K mg "leads" sLeads ["places","ties"] fL fdL) (DS:Df K mg "spread" sSpread ["steps","start"] fSp fdSp) (T:Glb mg):FnOk P w K mg base CX0 3 f fd ["web","place"] (spRe C):=by
 have GC:FnOk P w K mg base CX0 2 fC fdC ["web","place"] (spCk C):=ok_ckp DC.fn M DA T
 have GL:FnOk P w K mg base CX0 1 fL fdL ["places","ties"] spLeads:=ok_leads DL.fn T
 have GS:FnOk P w K mg base CX0 1 fSp fdSp ["steps","start"] spSpread:=ok_spread DS.fn T
 have GP:FnOk P w K mg base CX0 1 fP fdP ["self"] (spPl C):=ok_places M.pF M.wc T
 have GT:FnOk P w K mg base CX0 1 fS fdS ["self"] (spTs C):=ok_ties M.sF M.wc T
 refine F.ok scRea (fun vs H Q E h=>?_) (fun cdv A outer s H vs Q E hr h=>?_)
 ·obtain ⟨x,ns,ps,y,rfl,_⟩:=h
  rfl
 ·obtain ⟨x,ns,ps,z,rfl,hW,g,hz,k⟩:=h
  have h1:=hr.mono (j:=1) (by decide)
  refine ⟨_,pss_cons (ps_expr (pe_call GC hr rfl DC.mgf DC.fn.kp DC.b .nil pass0 (pa_cons (pv 0) (pa_cons (pv 1) pa_nil))))
   (pss_one (ps_ret (pe_call GS h1 rfl DS.mgf DS.fn.kp DS.b .nil pass0 (pa_cons (pe_call GL h1 rfl DL.mgf DL.fn.kp DL.b .nil pass0 (pa_cons (pe_meth0 (pv 0) M.wc.cl M.pM GP h1 M.pB .nil pass0) (pa_cons (pe_meth0 (pv 0) M.wc.cl M.sM GT h1 M.sB .nil pass0) pa_nil))) (pa_cons (pv 1) pa_nil))))),?_⟩
  refine ⟨_,rfl,_,rfl,x,ns,ps,z,rfl,hW,hz,fun H1 s1=>?_⟩
  have W1:=hW.same s1
  obtain ⟨d1,f1,q1,r1⟩:=W1.meth "places"
  refine ⟨_,rfl,x,d1,f1,rfl,q1,r1,x,ns,ps,rfl,W1,fun l1 hl1=>?_⟩
  have sl1:=same_upd (o:=.lst ((srt ns).map V.str)) hl1
  have W2:=W1.same sl1
  obtain ⟨d2,f2,q2,r2⟩:=W2.meth "ties"
  refine ⟨_,rfl,x,d2,f2,rfl,q2,r2,x,ns,ps,rfl,W2,fun l2 us hl2 hU=>?_⟩
  have sl2:=same_upd (o:=.lst (us.map V.ref)) hl2
  refine ⟨l1,l2,srt ns,us,ps,rfl,sl2 _ _ upd_same,upd_same,hU.same sl2,srt_nd g.good.nd,by rw [srt_len];exact g.good.few,g.inS,Nat.le_trans g.few (by decide),fun d ls H3 S3 s3=>?_⟩
  have s03:=s1.trans (sl1.trans (sl2.trans s3))
  refine ⟨_,rfl,d,z,srt ns,ps,ls,rfl,S3,srt_nd g.good.nd,by rw [srt_len];exact g.good.few,g.inS,Nat.le_trans g.few (by decide),srt_mem.mpr hz,fun l H4 hl h4 s4=>?_⟩
  rw [rch_srt g.good.nd] at h4
  exact k l H4 (s03.free hl) h4 (s03.trans s4)
def spRs (C:Addr):Sp:=fun vs H Q _=>∃ (x:Addr) (ns:List Str) (ps:List (Str × Str)) (z:Str),vs=[.ref x,.str z]/\WebObj C H x ns ps/\GoodW ns ps/\z∈ns/\∀ (l:Addr) (H':Hp),H l=none->H' l=some (.lst ((rch ns (turn ps) z).map V.str))->Same H H'->Q (.ref l) H'
theorem scRsr:FnScope ["web","place"] ["web","place"] (defScope sReachers):=⟨rfl,rfl,rfl,by decide +kernel,rfl,by decide +kernel,by decide +kernel⟩
theorem ok_rs {f:Addr} {fd:FuncData} (F:Fun K "reachers" "reachers" sReachers f fd) (M:Mt K mg C fP fS fdP fdS) (DA:Df K mg "is_among" sAmong ["places","thing"] fA fdA) (DC:Df K mg "check_place" sChkPl ["web","place"] fC fdC)
  (DL:Df K mg "leads" sLeads ["places","ties"] fL fdL) (DTu:Df K mg "turned_pairs" sTurned ["ties"] fTu fdTu) (DS:Df K mg "spread" sSpread ["steps","start"] fSp fdSp) (T:Glb mg):FnOk P w K mg base CX0 3 f fd ["web","place"] (spRs C):=by
 have GC:FnOk P w K mg base CX0 2 fC fdC ["web","place"] (spCk C):=ok_ckp DC.fn M DA T
 have GL:FnOk P w K mg base CX0 1 fL fdL ["places","ties"] spLeads:=ok_leads DL.fn T
 have GS:FnOk P w K mg base CX0 1 fSp fdSp ["steps","start"] spSpread:=ok_spread DS.fn T
 have GP:FnOk P w K mg base CX0 1 fP fdP ["self"] (spPl C):=ok_places M.pF M.wc T
 have GT:FnOk P w K mg base CX0 1 fS fdS ["self"] (spTs C):=ok_ties M.sF M.wc T
 have GU:FnOk P w K mg base CX0 1 fTu fdTu ["ties"] spTurned:=ok_turned DTu.fn T
 refine F.ok scRsr (fun vs H Q E h=>?_) (fun cdv A outer s H vs Q E hr h=>?_)
 ·obtain ⟨x,ns,ps,z,rfl,_⟩:=h
  rfl
 ·obtain ⟨x,ns,ps,z,rfl,hW,g,hz,k⟩:=h
  have h1:=hr.mono (j:=1) (by decide)
  refine ⟨_,pss_cons (ps_expr (pe_call GC hr rfl DC.mgf DC.fn.kp DC.b .nil pass0 (pa_cons (pv 0) (pa_cons (pv 1) pa_nil))))
   (pss_one (ps_ret (pe_call GS h1 rfl DS.mgf DS.fn.kp DS.b .nil pass0 (pa_cons (pe_call GL h1 rfl DL.mgf DL.fn.kp DL.b .nil pass0 (pa_cons (pe_meth0 (pv 0) M.wc.cl M.pM GP h1 M.pB .nil pass0) (pa_cons (pe_call GU h1 rfl DTu.mgf DTu.fn.kp DTu.b .nil pass0 (pa_cons (pe_meth0 (pv 0) M.wc.cl M.sM GT h1 M.sB .nil pass0) pa_nil)) pa_nil))) (pa_cons (pv 1) pa_nil))))),?_⟩
  refine ⟨_,rfl,_,rfl,x,ns,ps,_,rfl,hW,hz,fun H1 s1=>?_⟩
  have W1:=hW.same s1
  obtain ⟨d1,f1,q1,r1⟩:=W1.meth "places"
  refine ⟨_,rfl,x,d1,f1,rfl,q1,r1,x,ns,ps,rfl,W1,fun l1 hl1=>?_⟩
  have sl1:=same_upd (o:=.lst ((srt ns).map V.str)) hl1
  have W2:=W1.same sl1
  obtain ⟨d2,f2,q2,r2⟩:=W2.meth "ties"
  refine ⟨_,rfl,x,d2,f2,rfl,q2,r2,x,ns,ps,rfl,W2,fun l2 us hl2 hU=>?_⟩
  have sl2:=same_upd (o:=.lst (us.map V.ref)) hl2
  refine ⟨l2,us,ps,rfl,upd_same,hU.same sl2,Nat.le_trans g.few (by decide),fun l3 vs3 H3 hl3 h3 hV s3=>?_⟩
  have inT:InP (srt ns) (turn ps):=turn_in g.inS
  have fewT:(turn ps).length<=1000:=by rw [turn_len];exact Nat.le_trans g.few (by decide)
  refine ⟨l1,l3,srt ns,vs3,turn ps,rfl,s3 _ _ (sl2 _ _ upd_same),h3,hV,srt_nd g.good.nd,by rw [srt_len];exact g.good.few,inT,fewT,fun d ls H4 S4 s4=>?_⟩
  have s04:=s1.trans (sl1.trans (sl2.trans (s3.trans s4)))
  refine ⟨_,rfl,d,z,srt ns,turn ps,ls,rfl,S4,srt_nd g.good.nd,by rw [srt_len];exact g.good.few,inT,fewT,srt_mem.mpr hz,fun l H5 hl h5 s5=>?_⟩
  rw [rch_srt g.good.nd] at h5
  exact k l H5 (s04.free hl) h5 (s04.trans s5)
end
abbrev St0:=Str->Option Bool
def setF (f:St0) (zs:List Str) (b:Bool):St0:=fun z=>if z∈zs then some b else f z
structure Gd (ns:List Str) (ps:List (Str × Str)) (f:St0):Prop where
 dom:∀ y,f y≠none->y∈ns
 up:∀ y z,f y=some true->Rch ps y z->f z=some true
 dn:∀ y z,f y=some false->Rch ps z y->f z=some false
theorem Gd.none (ns:List Str) (ps:List (Str × Str)):Gd ns ps (fun _=>none):=⟨fun _ h=>absurd rfl h,(fun _ _ h=>by cases h),(fun _ _ h=>by cases h)⟩
noncomputable def sT (ns:List Str) (ps:List (Str × Str)) (z:Str) (f:St0):St0:=setF f (rch ns ps z) true
noncomputable def sF (ns:List Str) (ps:List (Str × Str)) (z:Str) (f:St0):St0:=setF f (rch ns (turn ps) z) false
noncomputable def step (ns:List Str) (ps:List (Str × Str)) (z:Str) (f:St0):List St0:=if (f z).isSome=true then [f] else [sT ns ps z f,sF ns ps z f]
section
variable {ns:List Str} {ps:List (Str × Str)} {z:Str} {f:St0}
theorem rchB {a b:Str}:b∈rch ns (turn ps) a ↔ b∈ns/\Rch ps b a:=by rw [rch_mem];exact and_congr Iff.rfl rch_turn
theorem Gd.sT (g:Gd ns ps f) (hi:InP ns ps) (hz:z∈ns) (no:f z=.none):Gd ns ps (sT ns ps z f):=by
 unfold K22.sT setF
 refine ⟨fun y h=>?_,fun y x h r=>?_,fun y x h r=>?_⟩
 ·by_cases c:y∈rch ns ps z
  ·exact (rch_mem.mp c).1
  ·rw [if_neg c] at h;exact g.dom y h
 ·by_cases c:y∈rch ns ps z
  ·rw [if_pos (rch_mem.mpr ⟨r.isin hi (rch_mem.mp c).1,(rch_mem.mp c).2.trans r⟩)]
  ·rw [if_neg c] at h
   have:=g.up y x h r
   by_cases d:x∈rch ns ps z
   ·rw [if_pos d]
   ·rw [if_neg d];exact this
 ·by_cases c:y∈rch ns ps z
  ·rw [if_pos c] at h;cases h
  ·rw [if_neg c] at h
   have q:=g.dn y x h r
   by_cases d:x∈rch ns ps z
   ·have:=g.dn x z q (rch_mem.mp d).2
    rw [no] at this;cases this
   ·rw [if_neg d];exact q
theorem Gd.sF (g:Gd ns ps f) (hi:InP ns ps) (hz:z∈ns) (no:f z=.none):Gd ns ps (sF ns ps z f):=by
 unfold K22.sF setF
 refine ⟨fun y h=>?_,fun y x h r=>?_,fun y x h r=>?_⟩
 ·by_cases c:y∈rch ns (turn ps) z
  ·exact (rchB.mp c).1
  ·rw [if_neg c] at h;exact g.dom y h
 ·by_cases c:y∈rch ns (turn ps) z
  ·rw [if_pos c] at h;cases h
  ·rw [if_neg c] at h
   have q:=g.up y x h r
   by_cases d:x∈rch ns (turn ps) z
   ·have:=g.up x z q (rchB.mp d).2
    rw [no] at this;cases this
   ·rw [if_neg d];exact q
 ·by_cases c:y∈rch ns (turn ps) z
  ·have xin:x∈ns:=by
    have:Rch (turn ps) y x:=rch_turn.mpr r
    exact this.isin (turn_in hi) (rchB.mp c).1
   rw [if_pos (rchB.mpr ⟨xin,r.trans (rchB.mp c).2⟩)]
  ·rw [if_neg c] at h
   have:=g.dn y x h r
   by_cases d:x∈rch ns (turn ps) z
   ·rw [if_pos d]
   ·rw [if_neg d];exact this
def shutP (ps:List (Str × Str)) (M:Str->Bool):Prop:=∀ p∈ps,M p.1=true->M p.2=true
def comp (M:Str->Bool) (f:St0):Prop:=∀ y b,f y=some b->M y=b
theorem rch_M {M:Str->Bool} (sh:shutP ps M) {a b:Str} (r:Rch ps a b) (h:M a=true):M b=true:=r.stays (S:=fun y=>M y=true) h sh
theorem comp_ext {M:Str->Bool} {zs:List Str} {b:Bool} (g:∀ y∈zs,f y≠some (!b)) (h:comp M (setF f zs b)):comp M f:=fun y c e=>by
 by_cases d:y∈zs
 ·have:=h y b (by unfold setF;rw [if_pos d])
  rw [this]
  cases c<;>cases b<;>first | rfl | exact absurd e (g y d)
 ·exact h y c (by unfold setF;rw [if_neg d];exact e)
open Classical in
noncomputable def cN (M:Str->Bool) (fs:List St0):Nat:=fs.countP fun f=>decide (comp M f)
theorem cN_append (M:Str->Bool) (a b:List St0):cN M (a++b)=cN M a+cN M b:=List.countP_append
theorem cN_one {M:Str->Bool} (h:comp M f):cN M [f]=1:=by unfold cN;rw [List.countP_cons_of_pos (by simpa using h)];rfl
theorem cN_zero {M:Str->Bool} (h:¬ comp M f):cN M [f]=0:=by unfold cN;rw [List.countP_cons_of_neg (by simpa using h)];rfl
theorem step_cN {M:Str->Bool} (sh:shutP ps M) (g:Gd ns ps f) (hi:InP ns ps) (hz:z∈ns):cN M (step ns ps z f)=cN M [f]:=by
 unfold step
 by_cases c:(f z).isSome=true
 ·rw [if_pos c]
 ·rw [if_neg c]
  have no:f z=.none:=by cases e:f z with | none=>rfl | some b=>rw [e] at c;exact absurd rfl c
  have zT:z∈rch ns ps z:=rch_mem.mpr ⟨hz,.here _⟩
  have zF:z∈rch ns (turn ps) z:=rchB.mpr ⟨hz,.here _⟩
  have exT:comp M (sT ns ps z f)->comp M f:=comp_ext fun y hy e=>by
   have:=g.dn y z e (rch_mem.mp hy).2
   rw [no] at this;cases this
  have exF:comp M (sF ns ps z f)->comp M f:=comp_ext fun y hy e=>by
   have:=g.up y z e (rchB.mp hy).2
   rw [no] at this;cases this
  show cN M ([sT ns ps z f]++[sF ns ps z f])=_
  rw [cN_append]
  have hT:comp M (sT ns ps z f)->M z=true:=fun h=>h z true (by unfold sT setF;rw [if_pos zT])
  have hF:comp M (sF ns ps z f)->M z=false:=fun h=>h z false (by unfold sF setF;rw [if_pos zF])
  by_cases cf:comp M f
  ·rw [cN_one cf]
   cases mz:M z with
   | true =>
    have:comp M (sT ns ps z f):=fun y b e=>by
     unfold sT setF at e
     by_cases d:y∈rch ns ps z
     ·rw [if_pos d] at e;cases e;exact rch_M sh (rch_mem.mp d).2 mz
     ·rw [if_neg d] at e;exact cf y b e
    rw [cN_one this,cN_zero fun h=>by rw [hF h] at mz;cases mz]
   | false =>
    have:comp M (sF ns ps z f):=fun y b e=>by
     unfold sF setF at e
     by_cases d:y∈rch ns (turn ps) z
     ·rw [if_pos d] at e;cases e
      cases my:M y with
      | false=>rfl
      | true=>have:=rch_M sh (rchB.mp d).2 my;rw [mz] at this;cases this
     ·rw [if_neg d] at e;exact cf y b e
    rw [cN_one this,cN_zero fun h=>by rw [hT h] at mz;cases mz]
  ·rw [cN_zero cf,cN_zero fun h=>cf (exT h),cN_zero fun h=>cf (exF h)]
theorem step_len (ns:List Str) (ps:List (Str × Str)) (z:Str) (f:St0):(step ns ps z f).length<=2:=by unfold step;split<;>simp
end
structure Sts (ns:List Str) (ps:List (Str × Str)) (ys:List Str) (fs:List St0):Prop where
 gd:∀ f∈fs,Gd ns ps f
 dec:∀ f∈fs,∀ y∈ys,f y≠none
 one:∀ M,shutP ps M->cN M fs=1
 len:fs.length<=2 ^ ys.length
theorem Sts.start (ns:List Str) (ps:List (Str × Str)):Sts ns ps [] [fun _=>none]:=⟨(fun f hf=>by rw [List.mem_singleton.mp hf];exact Gd.none _ _),(fun _ _ _ h=>nomatch h),(fun M _=>cN_one fun y b e=>by cases e),by simp⟩
theorem Sts.next {ns:List Str} {ps:List (Str × Str)} {ys:List Str} {fs:List St0} {z:Str} (h:Sts ns ps ys fs) (hi:InP ns ps) (hz:z∈ns):Sts ns ps (ys++[z]) (fs.flatMap (step ns ps z)):=by
 have gd2:∀ f∈fs,∀ g∈step ns ps z f,Gd ns ps g/\g z≠none/\∀ y,f y≠none->g y≠none:=fun f hf g hg=>by
  have G:=h.gd f hf
  unfold step at hg
  by_cases c:(f z).isSome=true
  ·rw [if_pos c] at hg
   rw [List.mem_singleton.mp hg]
   exact ⟨G,(fun e=>by rw [e] at c;cases c),fun y h=>h⟩
  ·rw [if_neg c] at hg
   have no:f z=none:=by cases e:f z with | none=>rfl | some b=>rw [e] at c;exact absurd rfl c
   simp only [List.mem_cons,List.not_mem_nil,or_false] at hg
   rcases hg with rfl | rfl
   ·refine ⟨G.sT hi hz no,?_,fun y hy=>?_⟩
    ·unfold sT setF;rw [if_pos (rch_mem.mpr ⟨hz,.here _⟩)];intro e;cases e
    ·unfold sT setF;split
     ·intro e;cases e
     ·exact hy
   ·refine ⟨G.sF hi hz no,?_,fun y hy=>?_⟩
    ·unfold sF setF;rw [if_pos (rchB.mpr ⟨hz,.here _⟩)];intro e;cases e
    ·unfold sF setF;split
     ·intro e;cases e
     ·exact hy
 refine ⟨fun g hg=>?_,fun g hg y hy=>?_,fun M sh=>?_,?_⟩
 ·obtain ⟨f,hf,hg⟩:=List.mem_flatMap.mp hg
  exact (gd2 f hf g hg).1
 ·obtain ⟨f,hf,hg⟩:=List.mem_flatMap.mp hg
  obtain ⟨_,q1,q2⟩:=gd2 f hf g hg
  rcases List.mem_append.mp hy with q | q
  ·exact q2 y (h.dec f hf y q)
  ·rw [List.mem_singleton.mp q];exact q1
 ·rw [<- h.one M sh]
  have key:∀ l:List St0,(∀ g∈l,Gd ns ps g)->cN M (l.flatMap (step ns ps z))=cN M l:=by
   intro l
   induction l with
   | nil=>intro _;rfl
   | cons f fs ih =>
    intro gd
    rw [List.flatMap_cons,cN_append,ih fun g hg=>gd g (List.mem_cons_of_mem _ hg),step_cN sh (gd f List.mem_cons_self) hi hz]
    exact (cN_append M [f] fs).symm
  exact key fs h.gd
 ·rw [List.length_append,List.length_singleton,Nat.pow_succ]
  have:∀ l:List St0,(l.flatMap (step ns ps z)).length<=l.length * 2:=by
   intro l
   induction l with
   | nil=>simp
   | cons f l ih =>
    rw [List.flatMap_cons,List.length_append,List.length_cons]
    have:=step_len ns ps z f
    omega
  have:=this fs
  have:=h.len
  omega
def tf (f:St0) (y:Str):Bool:=(f y).getD false
def setOf (zs:List Str) (f:St0):List Str:=zs.filter (tf f)
structure CutX (zs:List Str) (ps:List (Str × Str)) (X:List Str):Prop where
 eq:X=zs.filter fun y=>decide (y∈X)
 sh:∀ p∈ps,p.1∈X->p.2∈X
 one:1<=X.length
 lt:X.length < zs.length
theorem full_sets {ns:List Str} {ps:List (Str × Str)} {fs:List St0} (nd:ns.Nodup) (hi:InP ns ps) (h:Sts ns ps (srt ns) fs):(fs.map (setOf (srt ns))).Nodup/\∀ X,X∈fs.map (setOf (srt ns)) ↔ (X=(srt ns).filter fun y=>decide (y∈X))/\∀ p∈ps,p.1∈X->p.2∈X:=by
 have tot:∀ f∈fs,∀ y∈ns,f y=some (tf f y):=fun f hf y hy=>by
  have:=h.dec f hf y (srt_mem.mpr hy)
  unfold tf
  cases e:f y with
  | none=>exact absurd e this
  | some b=>rfl
 have mem:∀ f∈fs,∀ y,y∈setOf (srt ns) f ↔ y∈ns/\tf f y=true:=fun f hf y=>by unfold setOf;rw [List.mem_filter,srt_mem]
 have shf:∀ f∈fs,shutP ps (tf f):=fun f hf p hp e=>by
  have hp1:=hi p hp
  have e1:=tot f hf _ hp1.1
  rw [e] at e1
  have:=(h.gd f hf).up p.1 p.2 e1 (.one (by obtain ⟨a,b⟩:=p;exact hp))
  unfold tf;rw [this];rfl
 have cf:∀ f∈fs,comp (tf f) f:=fun f hf y b e=>by unfold tf;rw [e];rfl
 have same:∀ f∈fs,∀ g∈fs,setOf (srt ns) g=setOf (srt ns) f->comp (tf f) g:=fun f hf g hg e y b eb=>by
  have hy:y∈ns:=(h.gd g hg).dom y (by rw [eb];intro z;cases z)
  have eg:=tot g hg y hy
  rw [eb] at eg
  have eg':b=tf g y:=by injection eg
  have m1:=mem g hg y
  rw [e,mem f hf y] at m1
  rw [eg']
  cases c1:tf f y<;>cases c2:tf g y
  ·rfl
  ·have:=(m1.mpr ⟨hy,c2⟩).2;rw [c1] at this;cases this
  ·have:=(m1.mp ⟨hy,c1⟩).2;rw [c2] at this;cases this
  ·rfl
 constructor
 ·rw [List.nodup_iff_count]
  intro X
  by_cases hX:X∈fs.map (setOf (srt ns))
  ·obtain ⟨f,hf,rfl⟩:=List.mem_map.mp hX
   rw [List.count_eq_countP,List.countP_map,<- h.one _ (shf f hf)]
   unfold cN
   refine List.countP_mono_left fun g hg e=>?_
   have e:setOf (srt ns) g=setOf (srt ns) f:=by simpa using e
   simpa using same f hf g hg e
  ·rw [List.count_eq_zero.mpr hX]
   exact Nat.zero_le _
 ·intro X
  constructor
  ·intro hX
   obtain ⟨f,hf,rfl⟩:=List.mem_map.mp hX
   refine ⟨?_,fun p hp h1=>?_⟩
   ·conv=>lhs;unfold setOf
    refine List.filter_congr fun y hy=>?_
    rw [Bool.eq_iff_iff,decide_eq_true_iff,mem f hf y]
    exact ⟨fun e=>⟨srt_mem.mp hy,e⟩,fun e=>e.2⟩
   ·rw [mem f hf] at h1 ⊢
    exact ⟨(hi p hp).2,shf f hf p hp h1.2⟩
  ·rintro ⟨eq,sh⟩
   have shM:shutP ps (fun y=>decide (y∈X)):=fun p hp e=>decide_eq_true (sh p hp (of_decide_eq_true e))
   have c1:=h.one _ shM
   have:0 < cN (fun y=>decide (y∈X)) fs:=by omega
   obtain ⟨f,hf,cfM⟩:=List.countP_pos_iff.mp this
   have cfM:comp (fun y=>decide (y∈X)) f:=by simpa using cfM
   refine List.mem_map.mpr ⟨f,hf,?_⟩
   rw [eq]
   unfold setOf
   refine List.filter_congr fun y hy=>?_
   have:=cfM y _ (tot f hf y (srt_mem.mp hy))
   exact this.symm
end K22
namespace L3
open PySem
def adv (m:Nat) (p:Probe):Probe :=
 if p.more > 0 then { p with j:=p.j+1,more:=p.more - 1 } else
 let (i,perturb):=SetTable.leap m p.i p.perturb
 { p with j:=i,more:=SetTable.runEnd m i - i,i,perturb }
def start (m:Nat) (h:Int):Probe:={ j:=SetTable.bits h % (m+1),more:=SetTable.runEnd m (SetTable.bits h % (m+1)) - SetTable.bits h % (m+1),i:=SetTable.bits h % (m+1),perturb:=SetTable.bits h,dummy:=none }
def st (m:Nat) (h:Int):Nat->Probe
 | 0=>start m h
 | k+1=>adv m (st m h k)
def sl (m:Nat) (h:Int) (k:Nat):Nat:=(st m h k).j
def lp (m:Nat) (h:Int):Nat->Nat × Nat
 | 0=>(SetTable.bits h % (m+1),SetTable.bits h)
 | k+1=>SetTable.leap m (lp m h k).1 (lp m h k).2
def at_ (m:Nat) (h:Int) (L r:Nat):Probe:={ j:=(lp m h L).1+r,more:=SetTable.runEnd m (lp m h L).1 - (lp m h L).1 - r,i:=(lp m h L).1,perturb:=(lp m h L).2,dummy:=none }
def run (m:Nat) (h:Int) (L:Nat):Nat:=SetTable.runEnd m (lp m h L).1 - (lp m h L).1
def off (m:Nat) (h:Int):Nat->Nat
 | 0=>0
 | L+1=>off m h L+run m h L+1
theorem bits_lt (h:Int):SetTable.bits h < 2 ^ 64:=by
 unfold SetTable.bits
 have a:=Int.emod_nonneg h (show (2 ^ 64:Int)≠0 by decide)
 have b:=Int.emod_lt_of_pos h (show (0:Int) < 2 ^ 64 by decide)
 omega
theorem lp_per (m:Nat) (h:Int):∀ k,(lp m h k).2=SetTable.bits h / 32 ^ k
 | 0=>by simp [lp]
 | k+1=>by
  show (lp m h k).2 / 32=_
  rw [lp_per m h k,Nat.div_div_eq_div_mul,Nat.pow_succ]
theorem lp_zero (m:Nat) (h:Int) (k:Nat):(lp m h (13+k)).2=0:=by
 rw [lp_per]
 refine Nat.div_eq_of_lt (Nat.lt_of_lt_of_le (bits_lt h) ?_)
 rw [Nat.pow_add]
 exact Nat.le_trans (by decide:2 ^ 64<=32 ^ 13) (Nat.le_mul_of_pos_right _ (Nat.pow_pos (by decide)))
theorem lp_lt (m:Nat) (h:Int):∀ k,(lp m h k).1 < m+1
 | 0=>Nat.mod_lt _ (Nat.succ_pos _)
 | k+1=>Nat.mod_lt _ (Nat.succ_pos _)
def it (m:Nat) (i:Nat):Nat->Nat
 | 0=>i
 | k+1=>(it m i k * 5+1) % (m+1)
theorem lp_it (m:Nat) (h:Int):∀ k,(lp m h (13+k)).1=it m (lp m h 13).1 k
 | 0=>rfl
 | k+1=>by
  show (SetTable.leap m (lp m h (13+k)).1 (lp m h (13+k)).2).1=_
  have z:(lp m h (13+k)).2 / 32=0:=by rw [lp_zero]
  unfold SetTable.leap
  rw [z,lp_it m h k]
  rfl
theorem it7:∀ i j:Fin 8,∃ k:Fin 8,it 7 i.val k.val=j.val:=by decide +kernel
theorem it31:∀ i j:Fin 32,∃ k:Fin 32,it 31 i.val k.val=j.val:=by decide +kernel
theorem leaps {m:Nat} (hm:m=7\/m=31) (h:Int) {j:Nat} (hj:j<=m):∃ L,L < m+15/\(lp m h L).1=j:=by
 have i:=lp_lt m h 13
 rcases hm with rfl | rfl
 ·obtain ⟨k,e⟩:=it7 ⟨_,i⟩ ⟨j,by omega⟩
  exact ⟨13+k.val,by omega,by rw [lp_it];exact e⟩
 ·obtain ⟨k,e⟩:=it31 ⟨_,i⟩ ⟨j,by omega⟩
  exact ⟨13+k.val,by omega,by rw [lp_it];exact e⟩
theorem least {P:Nat->Prop}:∀ n,P n->∃ m,m<=n/\P m/\∀ k,k < m->¬ P k:=by
 intro n
 induction n using Nat.strongRecOn with
 | ind n ih =>
  intro h
  by_cases q:∃ k,k < n/\P k
  ·obtain ⟨k,hk,pk⟩:=q
   obtain ⟨m,a,b,c⟩:=ih k hk pk
   exact ⟨m,by omega,b,c⟩
  ·exact ⟨n,Nat.le_refl _,h,fun k hk pk=>q ⟨k,hk,pk⟩⟩
theorem ins_get {α:Type} (xs:Array α) {p:Nat} (hp:p<=xs.size) (x:α) (i:Nat):(SetTable.insertAt xs p x)[i]?=if i < p then xs[i]? else if i=p then some x else xs[i - 1]?:=by
 rw [<- Array.getElem?_toList,SetTable.toList_insertAt]
 have lt:(xs.toList.take p).length=p:=by rw [List.length_take];simp;omega
 by_cases h:i < p
 ·rw [if_pos h,List.getElem?_append_left (by omega),List.getElem?_take,if_pos h,Array.getElem?_toList]
 ·rw [if_neg h,List.getElem?_append_right (by omega),lt]
  by_cases e:i=p
  ·subst e;simp
  ·rw [if_neg e]
   obtain ⟨d,rfl⟩:∃ d,i=p+1+d:=⟨i - (p+1),by omega⟩
   rw [show p+1+d - p=d+1 by omega,List.getElem?_cons_succ,List.getElem?_drop,Array.getElem?_toList]
   congr 1
   omega
theorem nd_map {α β:Type} {f:α->β}:∀ {l:List α},l.Nodup->(∀ i∈l,∀ j∈l,f i=f j->i=j)->(l.map f).Nodup
 | [],_,_=>List.nodup_nil
 | x::l,h,k=>by
  obtain ⟨h1,h2⟩:=List.nodup_cons.mp h
  refine List.nodup_cons.mpr ⟨fun m=>?_,nd_map h2 fun i hi j hj=>k i (List.mem_cons_of_mem _ hi) j (List.mem_cons_of_mem _ hj)⟩
  obtain ⟨y,hy,e⟩:=List.mem_map.mp m
  have:=k y (List.mem_cons_of_mem _ hy) x List.mem_cons_self e
  exact h1 (this ▸ hy)
end L3
namespace L2
open PySem PySem.Spec PyProof.Rows
section
variable {prog:Program} {w:World} {A:Around} {E:Value->Shared->Prop} {s:Shared} {src:Array Keyed} {kd:SortKind} {κ:PyProof.Rows.KeyKind}
structure Sts (src:Array Keyed) (kd:SortKind) (st:SortSt):Prop where
 pm:(arrOf st).Perm src
 kn:kindOf st=kd
 pn:pendingOf st=#[]
 fl:failedOf st=none
abbrev ky (κ:PyProof.Rows.KeyKind) (st:SortSt) (i:Nat):κ.α:=KK κ (arrOf st) i
structure Ended (src:Array Keyed) (κ:PyProof.Rows.KeyKind) (st:SortSt):Prop where
 pm:(arrOf st).Perm src
 fl:failedOf st=none
 pn:(pendingOf st).size=1
 up:SortedToK κ (arrOf st) src.size
end
def ltT:List Str->List Str->Bool
 | [],[]=>false
 | [],_::_=>true
 | _::_,[]=>false
 | a::as,b::bs=>if a=b then ltT as bs else decide (a.cps.toList < b.cps.toList)
theorem cps_inj {a b:Str} (h:a.cps.toList=b.cps.toList):a=b:=by
 cases a;cases b
 simp only [Str.mk.injEq]
 exact Array.toList_inj.mp h
theorem ltT_irrefl:∀ a:List Str,ltT a a=false
 | []=>rfl
 | x::xs=>by rw [ltT,if_pos rfl];exact ltT_irrefl xs
theorem ltT_trans:∀ a b c:List Str,ltT a b=true->ltT b c=true->ltT a c=true
 | [],[],_,h,_=>by cases h
 | [],_::_,[],_,h=>by cases h
 | [],_::_,_::_,_,_=>rfl
 | _::_,[],_,h,_=>by cases h
 | _::_,_::_,[],_,h=>by cases h
 | x::xs,y::ys,z::zs,h1,h2=>by
  rw [ltT] at h1 h2 ⊢
  by_cases e1:x=y
  ·subst e1
   rw [if_pos rfl] at h1
   by_cases e2:x=z
   ·subst e2;rw [if_pos rfl] at h2 ⊢;exact ltT_trans xs ys zs h1 h2
   ·rw [if_neg e2] at h2 ⊢;exact h2
  ·rw [if_neg e1,decide_eq_true_iff] at h1
   by_cases e2:y=z
   ·subst e2;rw [if_neg e1];exact decide_eq_true h1
   ·rw [if_neg e2,decide_eq_true_iff] at h2
    have lt:=List.lt_trans h1 h2
    have ne:x≠z:=fun q=>by rw [q] at lt;exact List.lt_irrefl _ lt
    rw [if_neg ne];exact decide_eq_true lt
theorem ltT_neg:∀ a b c:List Str,ltT a c=true->ltT a b=true\/ltT b c=true
 | [],[],_,h=>.inr h
 | [],_::_,_,_=>.inl rfl
 | _::_,_,[],h=>by cases h
 | _::_,[],_::_,_=>.inr rfl
 | x::xs,y::ys,z::zs,h=>by
  rw [ltT] at h
  rw [ltT,ltT]
  by_cases e:x=z
  ·subst e
   rw [if_pos rfl] at h
   by_cases e1:x=y
   ·subst e1;rw [if_pos rfl,if_pos rfl];exact ltT_neg xs ys zs h
   ·rw [if_neg e1,if_neg (Ne.symm e1)]
    rcases Std.lt_trichotomy x.cps.toList y.cps.toList with q | q | q
    ·exact .inl (decide_eq_true q)
    ·exact absurd (cps_inj q) e1
    ·exact .inr (decide_eq_true q)
  ·rw [if_neg e,decide_eq_true_iff] at h
   by_cases e1:x=y
   ·subst e1;rw [if_neg e];exact .inr (decide_eq_true h)
   ·by_cases e2:y=z
    ·subst e2;rw [if_neg e1];exact .inl (decide_eq_true h)
    ·rw [if_neg e1,if_neg e2]
     by_cases q:x.cps.toList < y.cps.toList
     ·exact .inl (decide_eq_true q)
     ·exact .inr (decide_eq_true (List.lt_of_le_of_lt (List.not_lt.mp q) h))
theorem ltT_total:∀ a b:List Str,ltT a b=false->ltT b a=false->a=b
 | [],[],_,_=>rfl
 | [],_::_,h,_=>by cases h
 | _::_,[],_,h=>by cases h
 | x::xs,y::ys,h1,h2=>by
  rw [ltT] at h1 h2
  by_cases e:x=y
  ·subst e;rw [if_pos rfl] at h1 h2;rw [ltT_total xs ys h1 h2]
  ·rw [if_neg e,decide_eq_false_iff_not] at h1
   rw [if_neg (Ne.symm e),decide_eq_false_iff_not] at h2
   exact absurd (cps_inj (List.le_antisymm (List.not_lt.mp h2) (List.not_lt.mp h1))) e
def tupOrd (f:Addr->List Str):PyProof.Rows.KeyKind where
 α:=List Str
 blt:=ltT
 irrefl:=ltT_irrefl
 trans:=ltT_trans
 negTrans:=ltT_neg
 total:=ltT_total
 keyOf v:=match v with | .ref a=>some (f a) | _=>none
 dflt:=[]
theorem keyLt_tuples (b:Bool) (x y:Value):keyLt' (tuples' b) x y=(do
  let xs <- Builtin.List.listItems x;let ys <- Builtin.List.listItems y
  for ((p,q),i) in (xs.toList.zip ys.toList).zipIdx do
   if !(<- eqBool p q) then return <- oneLt' (b && i == 0) p q
  return xs.size < ys.size):=rfl
section
variable {prog:Program} {w:World} {A:Around} {E:Value->Shared->Prop} {s:Shared}
theorem oneLt_any {a b:Str} {t u:Tok} {o:Bool} {Q:Bool->Shared->Prop} (h:Q (decide (a.cps.toList < b.cps.toList)) s):wpAny (model prog w) A (oneLt' o (.str a t) (.str b u)) Q E s:=by
 cases o with
 | true=>exact oneLt_str h
 | false =>
  rw [oneLt'_eq]
  simp only [Bool.false_eq_true,if_false]
  refine wpAny_bind ?_
  show wpAny _ _ (compareOp .Lt (.str a t) (.str b u)) _ _ _
  exact lt_str (wpAny_truthy_bool h)
theorem lt_loop {o:Bool} {f:(Value × Value) × Nat->Option Bool × Unit->Sem (ForInStep (Option Bool × Unit))}
  (hf:∀ p q i,f ((p,q),i) (none,())=eqBool p q >>= fun e=>if (!e)=true then oneLt' (o && i == 0) p q >>= fun r=>pure (.done (some r,())) else pure (.yield (none,()))) :
  ∀ {xs:List Value} {as:List Str},StrsAre xs as->∀ {ys:List Value} {bs:List Str},StrsAre ys bs->∀ (k:Nat) (Q:Option Bool × Unit->Shared->Prop),
   (∀ r,(match r with | some b=>b=ltT as bs | none=>ltT as bs=decide (as.length < bs.length))->Q (r,()) s)->wpAny (model prog w) A (forIn ((xs.zip ys).zipIdx k) (none,()) f) Q E s:=by
 intro xs as sx
 induction sx with
 | nil =>
  intro ys bs sy k Q h
  rw [List.zip_nil_left,List.zipIdx_nil,List.forIn_nil]
  refine wpAny_pure (h none ?_)
  cases bs<;>simp [ltT]
 | cons a ta sx ih =>
  intro ys bs sy k Q h
  cases sy with
  | nil =>
   rw [List.zip_nil_right,List.zipIdx_nil,List.forIn_nil]
   exact wpAny_pure (h none (by simp [ltT]))
  | cons b tb sy =>
   rw [List.zip_cons_cons,List.zipIdx_cons,List.forIn_cons,hf]
   refine wpAny_bind (wpAny_bind (wpAny_eqBool_str ?_))
   by_cases e:a=b
   ·rw [decide_eq_true e,if_neg (by simp)]
    refine wpAny_pure (ih sy (k+1) Q fun r z=>h r ?_)
    cases r with
    | some v=>rw [show v=_ from z,ltT,if_pos e]
    | none =>
     show ltT (a::_) (b::_)=_
     rw [ltT,if_pos e,show ltT _ _=_ from z]
     simp
   ·rw [decide_eq_false e,if_pos (by simp)]
    refine wpAny_bind (oneLt_any (wpAny_pure (wpAny_pure (h (some _) ?_))))
    show _=ltT (a::_) (b::_)
    rw [ltT,if_neg e]
theorem lt_tups {x y:Addr} {xs ys:List Value} {as bs:List Str} {o:Bool} {Q:Bool->Shared->Prop} (hx:IsTup s.heap x xs.toArray) (hy:IsTup s.heap y ys.toArray) (sx:StrsAre xs as) (sy:StrsAre ys bs) (h:Q (ltT as bs) s) :
  wpAny (model prog w) A (keyLt' (tuples' o) (.ref x) (.ref y)) Q E s:=by
 obtain ⟨ox,hox,_,nx,dx⟩:=hx
 obtain ⟨oy,hoy,_,ny,dy⟩:=hy
 rw [keyLt_tuples]
 refine wpAny_bind (listItems_at hox dx ?_)
 refine wpAny_bind (listItems_at hoy dy ?_)
 refine wpAny_bind ?_
 refine lt_loop (o:=o) (fun p q i=>rfl) (by simpa using sx) (by simpa using sy) 0 _ fun r z=>?_
 cases r with
 | some v=>rw [show v=_ from z];exact wpAny_pure h
 | none =>
  refine wpAny_pure ?_
  have lx:=strs_len sx
  have ly:=strs_len sy
  rw [List.size_toArray,List.size_toArray,lx,ly,<- show ltT as bs=_ from z]
  exact h
def TupsV (h:Heap):List Value->List (List Str)->Prop:=Paired fun v zs=>∃ a its,v=.ref a/\IsTup h a its.toArray/\StrsAre its zs
theorem first_tup {a:Addr} {its:List Value} {z:Str} {zs:List Str} {Q:Option Value->Shared->Prop} (ha:IsTup s.heap a its.toArray) (q:StrsAre its (z::zs)) (h:∀ t,Q (some (.str z t)) s):wpAny (model prog w) A (firstOfTuple' (.ref a)) Q E s:=by
 obtain ⟨o,ho,hc,n,hd⟩:=id ha
 cases q with
 | cons _ t r =>
  show wpAny _ _ (typeOf (.ref a) >>= fun t=>if (t != .type "tuple")=true then pure none else Builtin.List.listItems (.ref a) >>= fun xs=>pure xs[0]?) _ _ _
  refine wpAny_bind (wpAny_typeOf ha.typeIs ?_)
  rw [if_neg (by decide)]
  exact wpAny_bind (listItems_at ho hd (wpAny_pure (h t)))
theorem firsts:∀ {us:List Value} {zss:List (List Str)} {Q:List (Option Value)->Shared->Prop},TupsV s.heap us zss->(∀ zs∈zss,zs≠[])->(∀ vs ss,StrsAre vs ss->vs.length=us.length->Q (vs.map some) s)->wpAny (model prog w) A (us.mapM firstOfTuple') Q E s
 | [],_,Q,.nil,_,h=>by rw [List.mapM_nil];exact wpAny_pure (h [] [] .nil rfl)
 | u::us,_,Q,.cons (b:=zs) ⟨a,its,e,ha,q⟩ t,ne,h=>by
  subst e
  rw [List.mapM_cons]
  match zs,q,ne zs List.mem_cons_self with
  | z::zr,q,_ =>
   refine wpAny_bind (first_tup ha q fun tk=>wpAny_bind (firsts t (fun zs' hz=>ne zs' (List.mem_cons_of_mem _ hz)) fun vs ss sv lv=>wpAny_pure ?_))
   exact h (.str z tk::vs) (z::ss) (.cons z tk sv) (by simp [lv])
  | [],_,z=>exact absurd rfl z
theorem kind_tups {us:List Value} {zss:List (List Str)} {R:SortKind->Shared->Prop} (t:TupsV s.heap us zss) (ne:∀ zs∈zss,zs≠[]) (two:2<=us.length) (h:R (tuples' true) s):wpAny (model prog w) A (keyKind' us.toArray) R E s:=by
 rw [keyKind'_eq,List.mapM_toArray]
 refine wpAny_bind ?_
 show wpAny _ _ (List.toArray <$> us.mapM firstOfTuple') _ _ _
 rw [map_eq_pure_bind]
 refine wpAny_bind (firsts t ne fun vs ss sv lv=>wpAny_pure ?_)
 rw [if_pos (by simp)]
 refine wpAny_bind (wpAny_rule ?_)
 have e:((vs.map some).toArray.filterMap id)=vs.toArray:=by simp
 rw [e,oneTypeOnly'_eq,List.mapM_toArray,mapM_typeOf_strs sv]
 simp only [map_pure,pure_bind]
 match vs,lv,sv with
 | v::r,lv,sv =>
  have all:((List.map (fun _=>Value.type "str") (v::r)).toArray.all fun x=>x == Value.type "str")=true:=by
   simp only [List.all_toArray,List.all_map,List.all_eq_true]
   intro _ _;rfl
  have h0:(List.map (fun _=>Value.type "str") (v::r)).toArray[0]?=some (Value.type "str"):=by simp
  rw [h0]
  simp only [all,if_true,pure_bind]
  exact wpAny_pure h
 | [],lv,_=>simp at lv;omega
end
end L2
namespace L3
open PySem PySem.Spec PyProof.Rows L2
section
variable {prog:Program} {w:World} {A:Around} {E:Value->Shared->Prop} {s:Shared}
abbrev KT (prog:Program) (w:World) (h:Heap) (zs:List Str) (a:Addr):Prop:=IsTupleKey (PySem.strKind prog w) h zs a
abbrev hT (prog:Program) (w:World) (zs:List Str):Int:=tupleKeyHash (PySem.strKind prog w) zs
end
section
variable {α:Type} [DecidableEq α]
end
section
variable {prog:Program} {w:World} {A:Around} {E:Value->Shared->Prop} {s:Shared}
end
section
variable {prog:Program} {w:World} {A:Around} {E:Value->Shared->Prop} {s:Shared} {R:Result->Shared->Prop}
end
def Hold (H:Hp) (ps:List (Addr × List Str)):Prop:=∀ p∈ps,H p.1=some (.tup (p.2.map V.str))
section
variable {X:Cx} {own:List Str} {fr:List Nat} {sc:Scope} {tg iter elt:Expr} {ifs:List Expr} {pos:Pos} {wi:TI} {g:TG} {tt:TT} {te:TE}
end
def keyAt (ps:List (Addr × List Str)) (a:Addr):List Str:=((ps.find? fun p=>decide (p.1=a)).map (·.2)).getD []
theorem str_inj:∀ {xs ys:List Str},xs.map V.str=ys.map V.str->xs=ys
 | [],[],_=>rfl
 | [],_::_,h=>by simp at h
 | _::_,[],h=>by simp at h
 | x::xs,y::ys,h=>by
  simp only [List.map_cons,List.cons.injEq,V.str.injEq] at h
  rw [h.1,str_inj h.2]
theorem keyAt_of {H:Hp} {ps:List (Addr × List Str)} (h:Hold H ps) {p:Addr × List Str} (hp:p∈ps):keyAt ps p.1=p.2:=by
 unfold keyAt
 cases e:ps.find? fun q=>decide (q.1=p.1) with
 | none =>
  have:=List.find?_eq_none.mp e p hp
  simp at this
 | some q =>
  have h1:=List.find?_some e
  have h2:=List.mem_of_find?_eq_some e
  have e1:q.1=p.1:=by simpa using h1
  have a:=h q h2
  rw [e1,h p hp] at a
  have a':p.2.map V.str=q.2.map V.str:=by injection a with a;injection a
  exact (str_inj a').symm
section
variable {prog:Program} {w:World} {A:Around} {E:Value->Shared->Prop} {s:Shared}
def TupF (h:Heap) (f:Addr->List Str) (v:Value):Prop:=∃ a its,v=.ref a/\IsTup h a its.toArray/\StrsAre its (f a)/\f a≠[]
theorem TupF.keep {h h':Heap} {f:Addr->List Str} {v:Value} (x:TupF h f v) (k:∀ b o,h.get? b=some o->h'.get? b=some o):TupF h' f v:=let ⟨a,its,e,⟨o,ho,r⟩,q⟩:=x;⟨a,its,e,⟨o,k _ _ ho,r⟩,q⟩
theorem tupsV_of {h:Heap} {f:Addr->List Str}:∀ {us:List Value},(∀ v∈us,TupF h f v)->∃ zss,TupsV h us zss/\∀ zs∈zss,zs≠[]
 | [],_=>⟨[],.nil,fun _ z=>nomatch z⟩
 | u::us,k=>by
  obtain ⟨zss,t,n⟩:=tupsV_of fun v hv=>k v (List.mem_cons_of_mem _ hv)
  obtain ⟨a,its,e,hi,hs,ne⟩:=k u List.mem_cons_self
  exact ⟨f a::zss,.cons ⟨a,its,e,hi,hs⟩ t,fun z hz=>(List.mem_cons.mp hz).elim (fun e=>e ▸ ne) (n z)⟩
end
section
variable {X:Cx}
end
end L3
namespace L2
open PySem PySem.Spec PyProof.Rows
section
variable {X:Cx}
theorem pi_listK' {K:PySem.W.Frag} {tg l:Expr} {tl:TE} (hK:X.K=K) (hl:PE X l tl):PI X tg l (iList K tl):=by
 subst hK
 exact pi_list hl
end
end L2
namespace K22
open PySem PySem.Spec PyProof.Rows L2 L3
abbrev sStd:Stmt:=top 35 -- settled
abbrev sBoth:Stmt:=top 36 -- both_settled
def Rep (kvs:List (Key × V)) (f:St0):Prop:=∀ z:Str,valV kvs (Sum.inr z:Key)=(f z).map V.bl
theorem Rep.nil:Rep [] (fun _=>none):=fun _=>rfl
theorem Rep.put {kvs:List (Key × V)} {f:St0} (h:Rep kvs f) (z:Str) (b:Bool):Rep (putK kvs (Sum.inr z:Key) (.bl b)) (fun y=>if y=z then some b else f y):=fun y=>by
 rw [valV_put]
 show _=Option.map V.bl (if y=z then some b else f y)
 by_cases c:y=z
 ·rw [if_pos (by rw [c]),if_pos c];rfl
 ·rw [if_neg (fun e=>c (Sum.inr.inj e)),if_neg c];exact h y
theorem putK_le (kvs:List (Key × V)) (k:Key) (v:V):(putK kvs k v).length<=kvs.length+1:=by
 unfold putK
 split
 ·rw [List.length_map];omega
 ·rw [List.length_append];simp
def StAt (B:Nat) (H:Hp):List Addr->List St0->Prop:=Paired fun u f=>∃ kvs,H u=some (.dK kvs)/\kvs.length<=B/\Rep kvs f
theorem StAt.same {B:Nat} {H H':Hp} {us:List Addr} {fs:List St0} (h:StAt B H us fs) (s:Same H H'):StAt B H' us fs:=Paired.mapP h fun u f ⟨kvs,e,l,r⟩=>⟨kvs,s _ _ e,l,r⟩
theorem StAt.len {B:Nat} {H:Hp} {us:List Addr} {fs:List St0} (h:StAt B H us fs):us.length=fs.length:=Paired.length h
theorem StAt.get {B:Nat} {H:Hp} {us:List Addr} {fs:List St0} (h:StAt B H us fs):∀ {i:Nat} {u:Addr},us[i]?=some u->∃ f kvs,fs[i]?=some f/\H u=some (.dK kvs)/\kvs.length<=B/\Rep kvs f:=by
 unfold StAt at h
 induction h with
 | nil=>intro i u e;simp at e
 | cons h _ ih =>
  intro i u e
  cases i with
  | zero=>simp at e;subst e;obtain ⟨kvs,q⟩:=h;exact ⟨_,kvs,rfl,q⟩
  | succ i=>simp at e;obtain ⟨x,kvs,ex,hx⟩:=ih e;exact ⟨x,kvs,by simpa using ex,hx⟩
section
variable {P:Program} {w:World} {K:PySem.W.Frag} {mg:Str->Option Value} {base:Heap}
variable {C fRe fRs fSt:Addr} {fdRe fdRs fdSt:FuncData}
def spStd:Sp:=fun vs H Q _=>∃ (d lp:Addr) (kvs:List (Key × V)) (f:St0) (zs:List Str) (b:Bool),vs=[.ref d,.ref lp,.bl b]/\H d=some (.dK kvs)/\kvs.length<=500/\Rep kvs f/\H lp=some (.lst (zs.map V.str))/\zs.length<=12 /\
 ∀ q kvs' H',H q=none->H' q=some (.dK kvs')->kvs'.length<=kvs.length+12->Rep kvs' (setF f zs b)->Same H H'->Q (.ref q) H'
abbrev nStd:List Str:=["state","places","answer","more","place"]
abbrev aStd:List Str:=["state","places","answer"]
theorem scStd:FnScope nStd aStd (defScope sStd):=⟨rfl,rfl,rfl,by decide +kernel,rfl,by decide +kernel,by decide +kernel⟩
theorem ok_std {f:Addr} {fd:FuncData} (F:Fun K "settled" "settled" sStd f fd) (hd:mg "dict" = none) (T:Glb mg):FnOk P w K mg base CX0 1 f fd aStd spStd:=by
 refine F.ok scStd (fun vs H Q E h=>?_) (fun cdv A outer s H vs Q E hr h=>?_)
 ·obtain ⟨d,lp,kvs,f0,zs,b,rfl,_⟩:=h
  rfl
 ·obtain ⟨d,lp,kvs,f0,zs,b,rfl,hdd,few,rp,hlp,z12,k⟩:=h
  have hu:=hu_of hr
  refine ⟨_,pss_cons (ps_set (i:=3) scStd.nd rfl (Or.inl rfl) (pe_callTy call_dict_copy (by rfl) hd PyProof.Rows.boot_dict (pa_cons (pv 0) pa_nil)))
   (pss_cons (ps_for PassesOwn.never rfl (pi_list (pv 1)) (pg_name (i:=4) scStd.nd rfl (Or.inl rfl))
    (pss_one (ps_dput hu (pv 3) (pv 4) (pv 2) rfl)))
   (pss_one (ps_ret (pv 3)))),?_⟩
  have big:1000<=sizeLine:=by decide
  refine ⟨_,rfl,d,kvs,rfl,hdd,by omega,fun q nq=>?_⟩
  have s1:=same_upd (o:=.dK kvs) nq
  refine ⟨_,rfl,lp,rfl,⟨_,SqL.of (s1 _ _ hlp)⟩,for_list (K:=K) (xs:=zs.map V.str) (fun i σ HH=>∃ v4 kvs',σ=[some (.ref d),some (.ref lp),some (.bl b),some (.ref q),v4]/\Same H HH/\HH q=some (.dK kvs')/\kvs'.length<=kvs.length+i/\Rep kvs' (setF f0 (zs.take i) b)) ⟨_,kvs,rfl,s1,upd_same,Nat.le_refl _,?_⟩ ?_ ?_ ?_⟩
  ·have:setF f0 (zs.take 0) b=f0:=by funext z;unfold setF;simp
   rw [this];exact rp
  ·rintro i σ HH _ ⟨_,_,rfl,sH,_⟩
   exact SqL.of (sH _ _ hlp)
  ·rintro i v σ HH hv ⟨v4,kvs',rfl,sH,hq,le,rp'⟩
   have hi:=(List.getElem?_eq_some_iff.mp hv).1
   rw [List.length_map] at hi
   rw [List.getElem?_map] at hv
   obtain ⟨z,ez,rfl⟩:=Option.map_eq_some_iff.mp hv
   refine ⟨_,rfl,_,rfl,_,rfl,q,_,rfl,DPut.k (k:=Sum.inr z) hq (by omega),?_⟩
   refine ⟨_,_,rfl,Same.upd_new sH nq,upd_same,Nat.le_trans (putK_le _ _ _) (by omega),?_⟩
   have e:setF f0 (zs.take (i+1)) b=fun y=>if y=z then some b else setF f0 (zs.take i) b y:=by
    funext y
    unfold setF
    rw [List.take_add_one,ez]
    by_cases c:y=z
    ·rw [if_pos c,if_pos (by rw [c];simp)]
    ·rw [if_neg c]
     have:y∈zs.take i++(some z).toList ↔ y∈zs.take i:=by simp [c]
     by_cases d:y∈zs.take i
     ·rw [if_pos d,if_pos (this.mpr d)]
     ·rw [if_neg d,if_neg (fun h=>d (this.mp h))]
   rw [e]
   exact rp'.put z b
  ·rintro σ HH ⟨v4,kvs',rfl,sH,hq,le,rp'⟩
   rw [List.length_map] at le
   rw [List.length_map,List.take_length] at rp'
   exact ⟨_,rfl,k q kvs' HH nq hq (by omega) rp' sH⟩
def spBoth (C:Addr):Sp:=fun vs H Q _=>∃ (x l:Addr) (z:Str) (ns:List Str) (ps:List (Str × Str)) (us:List Addr) (fs:List St0) (B:Nat),vs=[.ref x,.ref l,.str z]/\WebObj C H x ns ps/\GoodW ns ps/\z∈ns/\H l=some (.lst (us.map V.ref))/\StAt B H us fs/\B<=400/\fs.length<=2000 /\
 ∀ q us' H',H q=none->H' q=some (.lst (us'.map V.ref))->StAt (B+12) H' us' (fs.flatMap (step ns ps z))->Same H H'->Q (.ref q) H'
abbrev nBo:List Str:=["web","states","place","below","above","found","state"]
abbrev aBo:List Str:=["web","states","place"]
theorem scBo:FnScope nBo aBo (defScope sBoth):=⟨rfl,rfl,rfl,by decide +kernel,rfl,by decide +kernel,by decide +kernel⟩
theorem pd_append {α β:Type} {F:α->β->Prop}:∀ {a c:List α} {b d:List β},Paired F a b->Paired F c d->Paired F (a++c) (b++d)
 | [],_,[],_,_,h=>h
 | _::_,_,_::_,_,.cons x r,h=>.cons x (pd_append r h)
theorem pd_snoc {α β:Type} {F:α->β->Prop} {a:List α} {b:List β} {x:α} {y:β} (h:Paired F a b) (k:F x y):Paired F (a++[x]) (b++[y]):=pd_append h (.cons k .nil)
theorem ok_both {f:Addr} {fd:FuncData} (F:Fun K "both_settled" "both_settled" sBoth f fd) (DR:Df K mg "reached" sReached ["web","place"] fRe fdRe) (GR:FnOk P w K mg base CX0 3 fRe fdRe ["web","place"] (spRe C)) (DB:Df K mg "reachers" sReachers ["web","place"] fRs fdRs) (GB:FnOk P w K mg base CX0 3 fRs fdRs ["web","place"] (spRs C)) (DS:Df K mg "settled" sStd aStd fSt fdSt) (hd:mg "dict" = none) (T:Glb mg):FnOk P w K mg base CX0 4 f fd aBo (spBoth C):=by
 have GS:FnOk P w K mg base CX0 1 fSt fdSt aStd spStd:=ok_std DS.fn hd T
 refine F.ok scBo (fun vs H Q E h=>?_) (fun cdv A outer s H vs Q E hr h=>?_)
 ·obtain ⟨x,l,z,ns,ps,us,fs,B,rfl,_⟩:=h
  rfl
 ·obtain ⟨x,l,z,ns,ps,us,fs,B,rfl,W,g,hz,hl,hU,b4,f2,k⟩:=h
  have hu:=hu_of hr
  have h1:=hr.mono (j:=1) (by decide)
  refine ⟨_,pss_cons (ps_set (i:=3) scBo.nd rfl (Or.inl rfl) (pe_call GR hr rfl DR.mgf DR.fn.kp DR.b .nil pass0 (pa_cons (pv 0) (pa_cons (pv 2) pa_nil))))
   (pss_cons (ps_set (i:=4) scBo.nd rfl (Or.inl rfl) (pe_call GB hr rfl DB.mgf DB.fn.kp DB.b .nil pass0 (pa_cons (pv 0) (pa_cons (pv 2) pa_nil))))
   (pss_cons (ps_set (i:=5) scBo.nd rfl (Or.inl rfl) (pe_lst pa_nil))
   (pss_cons (ps_for PassesOwn.never rfl (pi_list (pv 1)) (pg_name (i:=6) scBo.nd rfl (Or.inl rfl))
    (pss_one (ps_if (pt_cmp (pc_din hu (pv 2) (pv 6)))
     (pss_one (ps_expr (pe_bm PySem.F.plainAttrs_list PySem.F.slot_list_append PySem.F.type_list_append mt_append (pv 5) (pa_cons (pv 6) pa_nil))))
     (pss_cons (ps_expr (pe_bm PySem.F.plainAttrs_list PySem.F.slot_list_append PySem.F.type_list_append mt_append (pv 5) (pa_cons (pe_call GS h1 rfl DS.mgf DS.fn.kp DS.b .nil pass0 (pa_cons (pv 6) (pa_cons (pv 3) (pa_cons pe_bl pa_nil)))) pa_nil)))
     (pss_one (ps_expr (pe_bm PySem.F.plainAttrs_list PySem.F.slot_list_append PySem.F.type_list_append mt_append (pv 5) (pa_cons (pe_call GS h1 rfl DS.mgf DS.fn.kp DS.b .nil pass0 (pa_cons (pv 6) (pa_cons (pv 4) (pa_cons pe_bl pa_nil)))) pa_nil))))))))
   (pss_one (ps_ret (pv 5)))))),?_⟩
  have big:20000<=sizeLine:=by decide
  have n12:=g.good.few
  refine ⟨_,rfl,_,rfl,x,ns,ps,z,rfl,W,g,hz,fun lb H1 nlb hlb s1=>?_⟩
  refine ⟨_,rfl,_,rfl,x,ns,ps,z,rfl,W.same s1,g,hz,fun la H2 nla hla s2=>?_⟩
  have s02:=s1.trans s2
  have hlb2:=s2 _ _ hlb
  refine ⟨(by decide),fun lf nlf=>?_⟩
  have Hlf:H lf=none:=s02.free nlf
  have s3:=same_upd (o:=.lst []) nlf
  have s03:=s02.trans s3
  have hlb3:=s3 _ _ hlb2
  have hla3:=s3 _ _ hla
  have hlf3:=upd_same (H:=H2) (a:=lf) (o:=.lst [])
  generalize upd H2 lf (.lst [])=H3 at s3 s03 hlb3 hla3 hlf3 ⊢
  have nbf:lb≠lf:=fun e=>by rw [e] at hlb2;rw [hlb2] at nlf;cases nlf
  have naf:la≠lf:=fun e=>by rw [e] at hla;rw [hla] at nlf;cases nlf
  have lr1:(rch ns ps z).length<=12:=Nat.le_trans rch_len n12
  have lr2:(rch ns (turn ps) z).length<=12:=Nat.le_trans rch_len n12
  have lus:=hU.len
  have slen:∀ l:List St0,(l.flatMap (step ns ps z)).length<=l.length * 2:=by
   intro l
   induction l with
   | nil=>simp
   | cons f l ih =>
    rw [List.flatMap_cons,List.length_append,List.length_cons]
    have:=step_len ns ps z f
    omega
  refine ⟨_,rfl,l,rfl,⟨_,SqL.of (s03 _ _ hl)⟩,for_list (K:=K) (xs:=us.map V.ref) (fun i σ HH=>∃ v6 vs',σ=[some (.ref x),some (.ref l),some (.str z),some (.ref lb),some (.ref la),some (.ref lf),v6]/\Same H HH/\HH lb=some (.lst ((rch ns ps z).map V.str))/\HH la=some (.lst ((rch ns (turn ps) z).map V.str))/\HH lf=some (.lst (vs'.map V.ref))/\StAt (B+12) HH vs' ((fs.take i).flatMap (step ns ps z))) ⟨_,[],rfl,s03,hlb3,hla3,hlf3,.nil⟩ ?_ ?_ ?_⟩
  ·rintro i σ HH _ ⟨_,_,rfl,sH,_⟩
   exact SqL.of (sH _ _ hl)
  ·rintro i v σ HH hv ⟨v6,vs',rfl,sH,hb,ha,hf,hS⟩
   rw [List.getElem?_map] at hv
   obtain ⟨u,eu,rfl⟩:=Option.map_eq_some_iff.mp hv
   obtain ⟨f0,kvs,ef,hk,lk,rp⟩:=hU.get eu
   have hkH:=sH _ _ hk
   have hi:=(List.getElem?_eq_some_iff.mp ef).1
   have tk:(fs.take (i+1)).flatMap (step ns ps z)=(fs.take i).flatMap (step ns ps z)++step ns ps z f0:=by rw [List.take_add_one,ef,List.flatMap_append];simp
   have lvs:=hS.len
   have ls:=slen (fs.take i)
   rw [List.length_take] at ls
   have mvd:∀ {HX:Hp} {xs:List V} (o:List V),HX lf=some (.lst xs)->∀ {us2:List Addr} {fs2:List St0},StAt (B+12) HX us2 fs2->StAt (B+12) (upd HX lf (.lst o)) us2 fs2:=fun {HX xs} o hx {us2 fs2} h=>Paired.mapP h fun u f ⟨kvs,e,l,r⟩=>⟨kvs,by rw [L2.upd_ne (ne_of e hx (by intro z;cases z))];exact e,l,r⟩
   refine ⟨_,rfl,_,rfl,u,_,rfl,DGet.k (k:=Sum.inr z) hkH,_,rfl,?_⟩
   rw [rp z,Option.isSome_map]
   by_cases c:(f0 z).isSome=true
   ·rw [c]
    refine iteT ⟨_,rfl,.inl ⟨rfl,_,SqL.of hf⟩,_,rfl,lf,_,_,rfl,rfl,hf,by rw [List.length_map];omega,?_⟩
    refine ⟨_,vs'++[u],rfl,Same.upd_new sH Hlf,by rw [L2.upd_ne nbf];exact hb,by rw [L2.upd_ne naf];exact ha,by rw [upd_same];simp,?_⟩
    rw [tk]
    unfold step
    rw [if_pos c]
    exact pd_snoc (mvd _ hf hS) ⟨kvs,by rw [L2.upd_ne (ne_of hkH hf (by intro z;cases z))];exact hkH,by omega,rp⟩
   ·have cf:(f0 z).isSome=false:=Bool.eq_false_iff.mpr c
    rw [cf]
    refine iteF ⟨_,rfl,.inl ⟨rfl,_,SqL.of hf⟩,_,rfl,_,rfl,u,lb,kvs,f0,_,true,rfl,hkH,by omega,rp,hb,lr1,fun q1 kv1 H5 nq1 hq1 l1 r1 s5=>?_⟩
    have hf5:=s5 _ _ hf
    refine ⟨lf,_,_,rfl,rfl,hf5,by rw [List.length_map];omega,?_⟩
    have nq1f:q1≠lf:=fun e=>by rw [e,hf] at nq1;cases nq1
    have ha6:upd H5 lf (.lst (vs'.map V.ref++[V.ref q1])) la=some (.lst ((rch ns (turn ps) z).map V.str)):=by rw [L2.upd_ne naf];exact s5 _ _ ha
    have hb6:upd H5 lf (.lst (vs'.map V.ref++[V.ref q1])) lb=some (.lst ((rch ns ps z).map V.str)):=by rw [L2.upd_ne nbf];exact s5 _ _ hb
    have hf6:=upd_same (H:=H5) (a:=lf) (o:=.lst (vs'.map V.ref++[V.ref q1]))
    have hk6:upd H5 lf (.lst (vs'.map V.ref++[V.ref q1])) u=some (.dK kvs):=by rw [L2.upd_ne (ne_of (s5 _ _ hkH) hf5 (by intro z;cases z))];exact s5 _ _ hkH
    have S6:StAt (B+12) (upd H5 lf (.lst (vs'.map V.ref++[V.ref q1]))) (vs'++[q1]) ((fs.take i).flatMap (step ns ps z)++[sT ns ps z f0]):=pd_snoc (mvd _ hf5 (hS.same s5)) ⟨kv1,by rw [L2.upd_ne nq1f];exact hq1,by omega,r1⟩
    have s6:=Same.upd_new (o:=.lst (vs'.map V.ref++[V.ref q1])) (sH.trans s5) Hlf
    generalize upd H5 lf (.lst (vs'.map V.ref++[V.ref q1]))=H6 at ha6 hb6 hf6 hk6 S6 s6 ⊢
    refine ⟨_,rfl,.inl ⟨rfl,_,SqL.of hf6⟩,_,rfl,_,rfl,u,la,kvs,f0,_,false,rfl,hk6,by omega,rp,ha6,lr2,fun q2 kv2 H7 nq2 hq2 l2 r2 s7=>?_⟩
    have hf7:=s7 _ _ hf6
    have nq2f:q2≠lf:=fun e=>by rw [e,hf6] at nq2;cases nq2
    refine ⟨lf,_,_,rfl,rfl,hf7,by simp only [List.length_append,List.length_map,List.length_cons,List.length_nil];omega,?_⟩
    refine ⟨_,vs'++[q1]++[q2],rfl,Same.upd_new (s6.trans s7) Hlf,by rw [L2.upd_ne nbf];exact s7 _ _ hb6,by rw [L2.upd_ne naf];exact s7 _ _ ha6,by rw [upd_same];simp,?_⟩
    rw [tk]
    unfold step at S6 ⊢
    rw [if_neg c,show [sT ns ps z f0,sF ns ps z f0]=[sT ns ps z f0]++[sF ns ps z f0] from rfl,<- List.append_assoc]
    exact pd_snoc (mvd _ hf7 (S6.same s7)) ⟨kv2,by rw [L2.upd_ne nq2f];exact hq2,by omega,r2⟩
  ·rintro σ HH ⟨v6,vs',rfl,sH,hb,ha,hf,hS⟩
   rw [List.length_map,lus,List.take_length] at hS
   exact ⟨_,rfl,k lf vs' HH Hlf hf hS sH⟩
end
end K22
namespace L2
open PySem PySem.Spec PyProof.Rows
abbrev SM (α:Type):=StateT SortSt Sem α
def ltBundle:(el:Array Keyed->Nat->SM Keyed) ×' (lt:Keyed->Keyed->SM (Option Bool)) ×' (∀ i j,ltAt' i j=(do let s <- get;let x <- el (arrOf s) i;let y <- el (arrOf s) j;lt x y)):=⟨_,_,fun _ _=>rfl⟩
def elemP:Array Keyed->Nat->SM Keyed:=ltBundle.1
def ltP:Keyed->Keyed->SM (Option Bool):=ltBundle.2.1
theorem ltAt_eq (i j:Nat):ltAt' i j=(do let s <- get;let x <- elemP (arrOf s) i;let y <- elemP (arrOf s) j;ltP x y):=ltBundle.2.2 i j
section
variable {M:Model} {A:Around} {E:Value->Shared->Prop} {s:Shared}
theorem elem_ok {arr:Array Keyed} {i:Nat} {Q:Keyed->SortSt->Prop} {st:SortSt} (h:i < arr.size) (q:Q arr[i] st):wpS M A E s (elemP arr i) Q st:=by
 show wpS M A E s (match arr[i]? with | some x=>pure x | none=>liftM (PySem.unsupported "internal:list.sort.index")) Q st
 rw [Array.getElem?_eq_getElem h]
 exact wpS_pure q
theorem lt_run {st:SortSt} {i j:Nat} (hi:i < (arrOf st).size) (hj:j < (arrOf st).size) {Q:Option Bool->SortSt->Prop} (h:wpS M A E s (ltAt' i j) Q st):wpS M A E s (ltP (arrOf st)[i] (arrOf st)[j]) Q st:=by
 rw [ltAt_eq] at h
 have e1:∀ (k:Nat) (hk:k < (arrOf st).size),elemP (arrOf st) k=pure (arrOf st)[k]:=fun k hk=>by
  show (match (arrOf st)[k]? with | some x=>pure x | none=>liftM (PySem.unsupported "internal:list.sort.index"))=_
  rw [Array.getElem?_eq_getElem hk]
 have e2:(do let s <- get;let x <- elemP (arrOf s) i;let y <- elemP (arrOf s) j;ltP x y:SM (Option Bool)).run st=(ltP (arrOf st)[i] (arrOf st)[j]).run st:=by
  show (do let x <- elemP (arrOf st) i;let y <- elemP (arrOf st) j;ltP x y:SM (Option Bool)).run st=_
  rw [e1 i hi,e1 j hj]
  rfl
 unfold wpS at h ⊢
 rw [e2] at h
 exact h
end
def putM (sa:Nat) (merged:Array Keyed) (s:SortSt):SortSt:=setArr s (List.foldl (fun a x=>match x with | (p,j)=>a.setIfInBounds (sa+j) p) (arrOf s) merged.toList.zipIdx)
def mgSkel (gal:Bool->Keyed->Array Keyed->Nat->Nat->Nat->SM (Option Nat)) (lo hi:Array Keyed->Array Keyed->SM (Array Keyed)) (i:Nat):SM Bool:=do
 let s <- get
 match ((pendingOf s)[i]?,(pendingOf s)[i+1]?) with
 | (some (sa,na,power),some (sb,nb,_))=>do
  set (setPending s (((pendingOf s).setIfInBounds i (sa,na+nb,power)).eraseIdxIfInBounds (i+1)))
  let key <- elemP (arrOf s) sb
  let x <- gal false key (arrOf s) sa na 0
  match x with
  | some k =>
   match (sa+k,na - k) with
   | (sa,na) =>
    if (na == 0)=true then pure true
    else do
     let key2 <- elemP (arrOf s) (sa+na - 1)
     let y <- gal true key2 (arrOf s) sb nb (nb - 1)
     match y with
     | some nb =>
      if (nb == 0)=true then pure true
      else
       if na<=nb then do
        let m <- lo ((arrOf s).extract sa sb) ((arrOf s).extract sb (sb+nb))
        modify (putM sa m)
        let z <- get
        pure (failedOf z).isNone
       else do
        let m <- hi ((arrOf s).extract sa sb) ((arrOf s).extract sb (sb+nb))
        modify (putM sa m)
        let z <- get
        pure (failedOf z).isNone
     | _=>pure false
  | _=>pure false
 | _=>liftM (PySem.unsupported "internal:list.sort.pending")
def mgBundle:(gal:Bool->Keyed->Array Keyed->Nat->Nat->Nat->SM (Option Nat)) ×' (lo:Array Keyed->Array Keyed->SM (Array Keyed)) ×' (hi:Array Keyed->Array Keyed->SM (Array Keyed)) ×' (∀ i,mergeAt' i=mgSkel gal lo hi i):=⟨_,_,_,fun _=>rfl⟩
def galP:Bool->Keyed->Array Keyed->Nat->Nat->Nat->SM (Option Nat):=mgBundle.1
def loP:Array Keyed->Array Keyed->SM (Array Keyed):=mgBundle.2.1
def hiP:Array Keyed->Array Keyed->SM (Array Keyed):=mgBundle.2.2.1
theorem merge_eq (i:Nat):mergeAt' i=mgSkel galP loP hiP i:=mgBundle.2.2.2 i
def beyond (left:Bool) (key:Keyed) (arr:Array Keyed) (base i:Nat):SM (Option Bool):=do
 let x <- elemP arr (base+i)
 if left=true then ltP x key
 else do
  let r <- ltP key x
  pure (Option.map (fun x=>!x) r)
def galFin (left:Bool) (key:Keyed) (arr:Array Keyed) (base n lo hi:Nat):SM (Option Nat):=do
 let s <- forIn [:n] ((none:Option (Option Nat)),lo,hi) fun _ s =>
  if s.2.1 ≥ s.2.2 then pure (ForInStep.done (none,s.2.1,s.2.2))
  else do
   let x <- beyond left key arr base (s.2.1+(s.2.2 - s.2.1) / 2)
   match x with
   | some more=>if more=true then pure (ForInStep.yield (none,s.2.1+(s.2.2 - s.2.1) / 2+1,s.2.2)) else pure (ForInStep.yield (none,s.2.1,s.2.1+(s.2.2 - s.2.1) / 2))
   | _=>pure (ForInStep.done (some none,s.2.1,s.2.2))
 match s.1 with
 | some r=>pure r
 | none=>pure (some s.2.2)
theorem gal_eq (left:Bool) (key:Keyed) (arr:Array Keyed) (base n hint:Nat):galP left key arr base n hint=(do
  let x <- beyond left key arr base hint
  match x with
  | some right =>
   if right=true then do
    let s <- forIn [:n] ((none:Option (Option Nat)),0,1) fun _ s =>
     if s.2.2 ≥ n - hint then pure (ForInStep.done (none,s.2.1,s.2.2))
     else do
      let x <- beyond left key arr base (hint+s.2.2)
      match x with
      | some more=>if (!more)=true then pure (ForInStep.done (none,s.2.1,s.2.2)) else pure (ForInStep.yield (none,s.2.2,2 * s.2.2+1))
      | _=>pure (ForInStep.done (some none,s.2.1,s.2.2))
    match s.1 with
    | some r=>pure r
    | none=>galFin left key arr base n (hint+s.2.1+1) (hint+min s.2.2 (n - hint))
   else do
    let s <- forIn [:n] ((none:Option (Option Nat)),0,1) fun _ s =>
     if s.2.2 ≥ hint+1 then pure (ForInStep.done (none,s.2.1,s.2.2))
     else do
      let x <- beyond left key arr base (hint - s.2.2)
      match x with
      | some found=>if found=true then pure (ForInStep.done (none,s.2.1,s.2.2)) else pure (ForInStep.yield (none,s.2.2,2 * s.2.2+1))
      | _=>pure (ForInStep.done (some none,s.2.1,s.2.2))
    match s.1 with
    | some r=>pure r
    | none=>galFin left key arr base n (hint+1 - min s.2.2 (hint+1)) (hint - s.2.1)
  | _=>pure none):=by kernel_rfl
structure OkS (src:Array Keyed) (kd:SortKind) (st:SortSt):Prop where
 pm:(arrOf st).Perm src
 kn:kindOf st=kd
 fl:failedOf st=none
section
variable {prog:Program} {w:World} {A:Around} {E:Value->Shared->Prop} {s:Shared} {src:Array Keyed} {kd:SortKind} {κ:PyProof.Rows.KeyKind}
theorem OkS.len {st:SortSt} (q:OkS src kd st):(arrOf st).size=src.size:=q.pm.size_eq
abbrev kof (κ:PyProof.Rows.KeyKind) (x:Keyed):κ.α:=(κ.keyOf x.1).getD κ.dflt
theorem KK_at {xs:Array Keyed} {i:Nat} (h:i < xs.size):KK κ xs i=kof κ xs[i]:=by
 unfold KK
 rw [Array.getElem?_eq_getElem h]
def CmpS (prog:Program) (w:World) (A:Around) (E:Value->Shared->Prop) (s:Shared) (src:Array Keyed) (kd:SortKind) (κ:PyProof.Rows.KeyKind):Prop :=
 ∀ (st:SortSt) (i j:Nat) (R:Option Bool->SortSt->Prop),OkS src kd st->i < src.size->j < src.size->R (some (κ.blt (ky κ st i) (ky κ st j))) st->wpS (model prog w) A E s (ltAt' i j) R st
theorem lt_ok {st:SortSt} {x y:Keyed} {R:Option Bool->SortSt->Prop} (C:CmpS prog w A E s src kd κ) (q:OkS src kd st) (hx:x∈arrOf st) (hy:y∈arrOf st) (h:R (some (κ.blt (kof κ x) (kof κ y))) st):wpS (model prog w) A E s (ltP x y) R st:=by
 obtain ⟨i,hi,rfl⟩:=Array.getElem_of_mem hx
 obtain ⟨j,hj,rfl⟩:=Array.getElem_of_mem hy
 refine lt_run hi hj (C st i j R q (by rw [<- q.len];exact hi) (by rw [<- q.len];exact hj) ?_)
 show R (some (κ.blt (KK κ (arrOf st) i) (KK κ (arrOf st) j))) st
 rw [KK_at hi,KK_at hj]
 exact h
def Sub (arr:Array Keyed) (st:SortSt):Prop:=∀ x∈arr,x∈arrOf st
def bey (κ:PyProof.Rows.KeyKind) (left:Bool) (key:Keyed) (arr:Array Keyed) (base i:Nat):Bool:=if left=true then κ.blt (KK κ arr (base+i)) (kof κ key) else !κ.blt (kof κ key) (KK κ arr (base+i))
theorem bey_ok {st:SortSt} {left:Bool} {key:Keyed} {arr:Array Keyed} {base i:Nat} {R:Option Bool->SortSt->Prop} (C:CmpS prog w A E s src kd κ) (q:OkS src kd st) (hk:key∈arrOf st) (sub:Sub arr st) (hi:base+i < arr.size) (h:R (some (bey κ left key arr base i)) st) :
  wpS (model prog w) A E s (beyond left key arr base i) R st:=by
 unfold beyond
 refine wpS_bind (elem_ok hi ?_)
 have hm:=sub _ (Array.getElem_mem hi)
 unfold bey at h
 rw [KK_at hi] at h
 cases left with
 | true=>exact lt_ok C q hm hk h
 | false=>exact wpS_bind (lt_ok C q hk hm (wpS_pure h))
structure Spot (f:Nat->Bool) (n k:Nat):Prop where
 le:k<=n
 lo:∀ i,i < k->f i=true
 hi:∀ i,k<=i->i < n->f i=false
theorem fin_ok {st:SortSt} {left:Bool} {key:Keyed} {arr:Array Keyed} {base n lo hi:Nat} {R:Option Nat->SortSt->Prop} (C:CmpS prog w A E s src kd κ) (q:OkS src kd st) (hk:key∈arrOf st) (sub:Sub arr st) (hn:base+n<=arr.size)
  (mono:∀ i j,i<=j->j < n->bey κ left key arr base j=true->bey κ left key arr base i=true) (lh:lo<=hi) (hhn:hi<=n) (low:∀ i,i < lo->bey κ left key arr base i=true) (high:∀ i,hi<=i->i < n->bey κ left key arr base i=false)
  (h:∀ k,Spot (bey κ left key arr base) n k->R (some k) st):wpS (model prog w) A E s (galFin left key arr base n lo hi) R st:=by
 unfold galFin
 refine wpS_bind (wpS_mono (wpS_forRange (I:=fun x c t=>t=st/\∃ l r,c=(none,l,r)/\l<=r/\r<=n/\r<=l+(n - x)/\(∀ i,i < l->bey κ left key arr base i=true)/\∀ i,r<=i->i < n->bey κ left key arr base i=false)
  (Q:=fun c t=>t=st/\∃ k,c=(none,k,k)/\Spot (bey κ left key arr base) n k) (fun x c t _ xn z=>?_) (fun c t z=>?_) ⟨rfl,lo,hi,rfl,lh,hhn,by omega,low,high⟩) fun c t z=>?_)
 ·obtain ⟨rfl,l,r,rfl,lr,rn,gap,lo',hi'⟩:=z
  dsimp only
  by_cases met:l ≥ r
  ·rw [if_pos met]
   obtain rfl:l=r:=by omega
   exact wpS_pure ⟨rfl,l,rfl,rn,lo',hi'⟩
  ·rw [if_neg met]
   refine wpS_bind (bey_ok C q hk sub (by omega) ?_)
   generalize hm:l+(r - l) / 2=m
   have m1:l<=m:=by omega
   have m2:m < r:=by omega
   cases e:bey κ left key arr base m with
   | true=>exact wpS_pure ⟨rfl,m+1,r,rfl,by omega,rn,by omega,fun i hi2=>mono i m (by omega) (by omega) e,hi'⟩
   | false =>
    refine wpS_pure ⟨rfl,l,m,rfl,m1,by omega,by omega,lo',fun i h1 h2=>?_⟩
    cases e2:bey κ left key arr base i with
    | false=>rfl
    | true=>rw [mono m i h1 h2 e2] at e;cases e
 ·obtain ⟨rfl,l,r,rfl,lr,rn,gap,lo',hi'⟩:=z
  obtain rfl:l=r:=by omega
  exact ⟨rfl,l,rfl,rn,lo',hi'⟩
 ·obtain ⟨rfl,k,rfl,sp⟩:=z
  exact wpS_pure (h k sp)
theorem gal_ok {st:SortSt} {left:Bool} {key:Keyed} {arr:Array Keyed} {base n hint:Nat} {R:Option Nat->SortSt->Prop} (C:CmpS prog w A E s src kd κ) (q:OkS src kd st) (hk:key∈arrOf st) (sub:Sub arr st) (hn:base+n<=arr.size) (hh:hint < n)
  (mono:∀ i j,i<=j->j < n->bey κ left key arr base j=true->bey κ left key arr base i=true)
  (h:∀ k,Spot (bey κ left key arr base) n k->R (some k) st):wpS (model prog w) A E s (galP left key arr base n hint) R st:=by
 rw [gal_eq]
 have anti:∀ i j,i<=j->j < n->bey κ left key arr base i=false->bey κ left key arr base j=false:=fun i j h1 h2 e=>by
  cases e2:bey κ left key arr base j with
  | false=>rfl
  | true=>rw [mono i j h1 h2 e2] at e;cases e
 refine wpS_bind (bey_ok C q hk sub (by omega) ?_)
 dsimp only
 cases e:bey κ left key arr base hint with
 | true =>
  rw [if_pos rfl]
  refine wpS_bind (wpS_mono (wpS_forRange (I:=fun x c t=>t=st/\∃ l o,c=(none,l,o)/\l < o/\x+1<=o/\hint+l < n/\bey κ left key arr base (hint+l)=true)
   (Q:=fun c t=>t=st/\∃ l o,c=(none,l,o)/\l < o/\hint+l < n/\bey κ left key arr base (hint+l)=true/\(n - hint<=o\/(hint+o < n/\bey κ left key arr base (hint+o)=false))) (fun x c t _ xn z=>?_) (fun c t z=>?_) ⟨rfl,0,1,rfl,by omega,by omega,by omega,e⟩) fun c t z=>?_)
  ·obtain ⟨rfl,l,o,rfl,lo,xo,hl,el⟩:=z
   dsimp only
   by_cases far:o ≥ n - hint
   ·rw [if_pos far]
    exact wpS_pure ⟨rfl,l,o,rfl,lo,hl,el,.inl far⟩
   ·rw [if_neg far]
    refine wpS_bind (bey_ok C q hk sub (by omega) ?_)
    cases e2:bey κ left key arr base (hint+o) with
    | true=>exact wpS_pure ⟨rfl,o,2 * o+1,rfl,by omega,by omega,by omega,e2⟩
    | false=>exact wpS_pure ⟨rfl,l,o,rfl,lo,hl,el,.inr ⟨by omega,e2⟩⟩
  ·obtain ⟨rfl,l,o,rfl,lo,xo,hl,el⟩:=z
   exact ⟨rfl,l,o,rfl,lo,hl,el,.inl (by omega)⟩
  ·obtain ⟨rfl,l,o,rfl,lo,hl,el,end'⟩:=z
   dsimp only
   refine fin_ok C q hk sub hn mono (by omega) (by omega) (fun i hi=>mono i (hint+l) (by omega) hl el) (fun i h1 h2=>?_) h
   rcases end' with f | ⟨f1,f2⟩
   ·omega
   ·exact anti (hint+o) i (by omega) h2 f2
 | false =>
  rw [if_neg Bool.false_ne_true]
  refine wpS_bind (wpS_mono (wpS_forRange (I:=fun x c t=>t=st/\∃ l o,c=(none,l,o)/\l < o/\x+1<=o/\l<=hint/\bey κ left key arr base (hint - l)=false)
   (Q:=fun c t=>t=st/\∃ l o,c=(none,l,o)/\l < o/\l<=hint/\bey κ left key arr base (hint - l)=false/\(hint+1<=o\/(o<=hint/\bey κ left key arr base (hint - o)=true))) (fun x c t _ xn z=>?_) (fun c t z=>?_) ⟨rfl,0,1,rfl,by omega,by omega,by omega,e⟩) fun c t z=>?_)
  ·obtain ⟨rfl,l,o,rfl,lo,xo,hl,el⟩:=z
   dsimp only
   by_cases far:o ≥ hint+1
   ·rw [if_pos far]
    exact wpS_pure ⟨rfl,l,o,rfl,lo,hl,el,.inl far⟩
   ·rw [if_neg far]
    refine wpS_bind (bey_ok C q hk sub (by omega) ?_)
    cases e2:bey κ left key arr base (hint - o) with
    | true=>exact wpS_pure ⟨rfl,l,o,rfl,lo,hl,el,.inr ⟨by omega,e2⟩⟩
    | false=>exact wpS_pure ⟨rfl,o,2 * o+1,rfl,by omega,by omega,by omega,e2⟩
  ·obtain ⟨rfl,l,o,rfl,lo,xo,hl,el⟩:=z
   exact ⟨rfl,l,o,rfl,lo,hl,el,.inl (by omega)⟩
  ·obtain ⟨rfl,l,o,rfl,lo,hl,el,end'⟩:=z
   dsimp only
   refine fin_ok C q hk sub hn mono (by omega) (by omega) (fun i hi=>?_) (fun i h1 h2=>anti (hint - l) i (by omega) h2 el) h
   rcases end' with f | ⟨f1,f2⟩
   ·omega
   ·exact mono i (hint - o) (by omega) (by omega) f2
end
section
variable {κ:PyProof.Rows.KeyKind}
def kl (κ:PyProof.Rows.KeyKind) (x y:Keyed):Prop:=κ.kle (kof κ x) (kof κ y)
theorem kl_trans {x y z:Keyed} (h:kl κ x y) (k:kl κ y z):kl κ x z:=KeyOrd.kle_trans h k
theorem kl_of_lt {x y:Keyed} (h:κ.blt (kof κ x) (kof κ y)=true):kl κ x y:=KeyOrd.kle_of_klt h
theorem kl_of_not {x y:Keyed} (h:κ.blt (kof κ x) (kof κ y)=false):kl κ y x:=h
theorem drop_head {l:List Keyed} {i:Nat} (h:i < l.length):l.drop i=l[i]::l.drop (i+1):=List.drop_eq_getElem_cons h
theorem head_le {l:List Keyed} {i:Nat} {x:Keyed} (pw:(l.drop i).Pairwise (kl κ)) (h:i < l.length) (hx:kl κ x l[i]):∀ y∈l.drop i,kl κ x y:=by
 rw [drop_head h] at pw ⊢
 intro y hy
 rcases List.mem_cons.mp hy with rfl | hy
 ·exact hx
 ·exact kl_trans hx ((List.pairwise_cons.mp pw).1 y hy)
theorem last_ge {l:List Keyed} {i:Nat} {x:Keyed} (pw:(l.take (i+1)).Pairwise (kl κ)) (h:i < l.length) (hx:kl κ l[i] x):∀ y∈l.take (i+1),kl κ y x:=by
 rw [List.take_succ_eq_append_getElem h] at pw ⊢
 intro y hy
 rcases List.mem_append.mp hy with hy | hy
 ·exact kl_trans ((List.pairwise_append.mp pw).2.2 y hy l[i] (List.mem_singleton.mpr rfl)) hx
 ·rw [List.mem_singleton.mp hy];exact hx
structure MI (κ:PyProof.Rows.KeyKind) (a b out:List Keyed) (ia ib:Nat):Prop where
 pm:(out++a.drop ia++b.drop ib).Perm (a++b)
 s1:(out++a.drop ia).Pairwise (kl κ)
 s2:(out++b.drop ib).Pairwise (kl κ)
theorem MI.start {a b:List Keyed} (sa:a.Pairwise (kl κ)) (sb:b.Pairwise (kl κ)):MI κ a b [] 0 0:=⟨by simp,by simpa using sa,by simpa using sb⟩
theorem MI.takeA {a b out:List Keyed} {ia ib k:Nat} (h:MI κ a b out ia ib) (le:∀ x∈(a.drop ia).take k,∀ y∈b.drop ib,kl κ x y):MI κ a b (out++(a.drop ia).take k) (ia+k) ib:=by
 have e:out++(a.drop ia).take k++a.drop (ia+k)=out++a.drop ia:=by
  rw [<- List.drop_drop,List.append_assoc,List.take_append_drop]
 refine ⟨by rw [e];exact h.pm,by rw [e];exact h.s1,?_⟩
 have p1:=List.pairwise_append.mp h.s1
 have p2:=List.pairwise_append.mp h.s2
 refine List.pairwise_append.mpr ⟨List.pairwise_append.mpr ⟨p1.1,p1.2.1.sublist (List.take_sublist _ _),fun x hx y hy=>p1.2.2 x hx y (List.mem_of_mem_take hy)⟩,p2.2.1,fun x hx y hy=>?_⟩
 rcases List.mem_append.mp hx with q | q
 ·exact p2.2.2 x q y hy
 ·exact le x q y hy
theorem MI.takeB {a b out:List Keyed} {ia ib k:Nat} (h:MI κ a b out ia ib) (le:∀ x∈(b.drop ib).take k,∀ y∈a.drop ia,kl κ x y):MI κ a b (out++(b.drop ib).take k) ia (ib+k):=by
 have e:out++(b.drop ib).take k++b.drop (ib+k)=out++b.drop ib:=by
  rw [<- List.drop_drop,List.append_assoc,List.take_append_drop]
 refine ⟨?_,?_,by rw [e];exact h.s2⟩
 ·refine List.Perm.trans ?_ h.pm
  have e2:b.drop ib=(b.drop ib).take k++b.drop (ib+k):=by rw [<- List.drop_drop,List.take_append_drop]
  have:(out++(b.drop ib).take k++a.drop ia++b.drop (ib+k)).Perm (out++a.drop ia++((b.drop ib).take k++b.drop (ib+k))):=by
   rw [List.append_assoc,List.append_assoc,List.append_assoc]
   refine List.Perm.append_left _ ?_
   rw [<- List.append_assoc,<- List.append_assoc]
   exact List.Perm.append_right _ List.perm_append_comm
  rw [<- e2] at this
  exact this
 ·have p1:=List.pairwise_append.mp h.s1
  have p2:=List.pairwise_append.mp h.s2
  refine List.pairwise_append.mpr ⟨List.pairwise_append.mpr ⟨p2.1,p2.2.1.sublist (List.take_sublist _ _),fun x hx y hy=>p2.2.2 x hx y (List.mem_of_mem_take hy)⟩,p1.2.1,fun x hx y hy=>?_⟩
  rcases List.mem_append.mp hx with q | q
  ·exact p1.2.2 x q y hy
  ·exact le x q y hy
theorem MI.sa {a b out:List Keyed} {ia ib:Nat} (h:MI κ a b out ia ib):(a.drop ia).Pairwise (kl κ):=(List.pairwise_append.mp h.s1).2.1
theorem MI.sb {a b out:List Keyed} {ia ib:Nat} (h:MI κ a b out ia ib):(b.drop ib).Pairwise (kl κ):=(List.pairwise_append.mp h.s2).2.1
structure Mgd (κ:PyProof.Rows.KeyKind) (a b r:List Keyed):Prop where
 pm:r.Perm (a++b)
 up:r.Pairwise (kl κ)
theorem MI.endB {a b out:List Keyed} {ia ib:Nat} (h:MI κ a b out ia ib) (e:b.length<=ib):Mgd κ a b (out++a.drop ia++b.drop ib):=by
 refine ⟨h.pm,?_⟩
 rw [List.drop_eq_nil_of_le e,List.append_nil]
 exact h.s1
theorem MI.endA {a b out:List Keyed} {ia ib:Nat} (h:MI κ a b out ia ib) (e:a.length<=ia):Mgd κ a b (out++a.drop ia++b.drop ib):=by
 refine ⟨h.pm,?_⟩
 rw [List.drop_eq_nil_of_le e,List.append_nil]
 exact h.s2
theorem MI.last {a b out:List Keyed} {ia ib:Nat} (h:MI κ a b out ia ib) (le:∀ x∈b,∀ y∈a.drop ia,kl κ x y):Mgd κ a b (out++b.drop ib++a.drop ia):=by
 have p1:=List.pairwise_append.mp h.s1
 refine ⟨List.Perm.trans ?_ h.pm,List.pairwise_append.mpr ⟨h.s2,p1.2.1,fun x hx y hy=>?_⟩⟩
 ·rw [List.append_assoc,List.append_assoc]
  exact List.Perm.append_left _ List.perm_append_comm
 ·rcases List.mem_append.mp hx with q | q
  ·exact p1.2.2 x q y hy
  ·exact le x (List.mem_of_mem_drop q) y hy
structure MJ (κ:PyProof.Rows.KeyKind) (a b out:List Keyed) (na nb:Nat):Prop where
 pm:(a.take na++b.take nb++out).Perm (a++b)
 s1:(a.take na++out).Pairwise (kl κ)
 s2:(b.take nb++out).Pairwise (kl κ)
theorem MJ.start {a b:List Keyed} (sa:a.Pairwise (kl κ)) (sb:b.Pairwise (kl κ)):MJ κ a b [] a.length b.length:=⟨by simp,by simpa using sa,by simpa using sb⟩
theorem take_split {l:List Keyed} {i n:Nat} (h:i<=n):l.take n=l.take i++(l.take n).drop i:=by
 have:l.take i=(l.take n).take i:=by rw [List.take_take,Nat.min_eq_left h]
 rw [this,List.take_append_drop]
theorem MJ.takeA {a b out:List Keyed} {na nb i:Nat} (h:MJ κ a b out na nb) (hi:i<=na) (le:∀ x∈b.take nb,∀ y∈(a.take na).drop i,kl κ x y):MJ κ a b ((a.take na).drop i++out) i nb:=by
 have e:a.take i++((a.take na).drop i++out)=a.take na++out:=by rw [<- List.append_assoc,<- take_split hi]
 have p1:=List.pairwise_append.mp h.s1
 have p2:=List.pairwise_append.mp h.s2
 refine ⟨List.Perm.trans ?_ h.pm,by rw [e];exact h.s1,?_⟩
 ·rw [List.append_assoc,List.append_assoc]
  conv=>rhs;rw [take_split (l:=a) hi,List.append_assoc]
  refine List.Perm.append_left _ ?_
  rw [<- List.append_assoc,<- List.append_assoc]
  exact List.Perm.append_right _ List.perm_append_comm
 ·refine List.pairwise_append.mpr ⟨p2.1,List.pairwise_append.mpr ⟨p1.1.sublist (List.drop_sublist _ _),p1.2.1,fun x hx y hy=>p1.2.2 x (List.mem_of_mem_drop hx) y hy⟩,fun x hx y hy=>?_⟩
  rcases List.mem_append.mp hy with q | q
  ·exact le x hx y q
  ·exact p2.2.2 x hx y q
theorem MJ.takeB {a b out:List Keyed} {na nb i:Nat} (h:MJ κ a b out na nb) (hi:i<=nb) (le:∀ x∈a.take na,∀ y∈(b.take nb).drop i,kl κ x y):MJ κ a b ((b.take nb).drop i++out) na i:=by
 have e:b.take i++((b.take nb).drop i++out)=b.take nb++out:=by rw [<- List.append_assoc,<- take_split hi]
 have p1:=List.pairwise_append.mp h.s1
 have p2:=List.pairwise_append.mp h.s2
 refine ⟨List.Perm.trans (List.Perm.of_eq ?_) h.pm,?_,by rw [e];exact h.s2⟩
 ·rw [List.append_assoc,e,<- List.append_assoc]
 ·refine List.pairwise_append.mpr ⟨p1.1,List.pairwise_append.mpr ⟨p2.1.sublist (List.drop_sublist _ _),p2.2.1,fun x hx y hy=>p2.2.2 x (List.mem_of_mem_drop hx) y hy⟩,fun x hx y hy=>?_⟩
  rcases List.mem_append.mp hy with q | q
  ·exact le x hx y q
  ·exact p1.2.2 x hx y q
theorem MJ.sa {a b out:List Keyed} {na nb:Nat} (h:MJ κ a b out na nb):(a.take na).Pairwise (kl κ):=(List.pairwise_append.mp h.s1).1
theorem MJ.sb {a b out:List Keyed} {na nb:Nat} (h:MJ κ a b out na nb):(b.take nb).Pairwise (kl κ):=(List.pairwise_append.mp h.s2).1
theorem MJ.endA {a b out:List Keyed} {na nb:Nat} (h:MJ κ a b out na nb) (e:na=0):Mgd κ a b (a.take na++b.take nb++out):=by
 subst e
 exact ⟨h.pm,by simpa using h.s2⟩
theorem MJ.endB {a b out:List Keyed} {na nb:Nat} (h:MJ κ a b out na nb) (e:nb=0):Mgd κ a b (a.take na++b.take nb++out):=by
 subst e
 exact ⟨h.pm,by simpa using h.s1⟩
theorem MJ.first {a b out:List Keyed} {na nb:Nat} (h:MJ κ a b out na nb) (le:∀ x∈b.take nb,∀ y∈a,kl κ x y):Mgd κ a b (b.take nb++a.take na++out):=by
 have p2:=List.pairwise_append.mp h.s2
 refine ⟨List.Perm.trans (List.Perm.append_right _ List.perm_append_comm) h.pm,?_⟩
 rw [List.append_assoc]
 refine List.pairwise_append.mpr ⟨p2.1,h.s1,fun x hx y hy=>?_⟩
 rcases List.mem_append.mp hy with q | q
 ·exact le x hx y (List.mem_of_mem_take q)
 ·exact p2.2.2 x hx y q
end
structure Kp (st t:SortSt):Prop where
 ar:arrOf t=arrOf st
 kn:kindOf t=kindOf st
 pn:pendingOf t=pendingOf st
 fl:failedOf t=failedOf st
theorem Kp.refl (st:SortSt):Kp st st:=⟨rfl,rfl,rfl,rfl⟩
section
variable {prog:Program} {w:World} {A:Around} {E:Value->Shared->Prop} {s:Shared} {src:Array Keyed} {kd:SortKind} {κ:PyProof.Rows.KeyKind}
theorem Kp.ok {st t:SortSt} (k:Kp st t) (q:OkS src kd st):OkS src kd t:=⟨by rw [k.ar];exact q.pm,by rw [k.kn];exact q.kn,by rw [k.fl];exact q.fl⟩
theorem Kp.sub {st t:SortSt} {a:Array Keyed} (k:Kp st t) (q:Sub a st):Sub a t:=fun x hx=>by rw [k.ar];exact q x hx
theorem Kp.trans {r t u:SortSt} (a:Kp r t) (b:Kp t u):Kp r u:=⟨b.ar.trans a.ar,b.kn.trans a.kn,b.pn.trans a.pn,b.fl.trans a.fl⟩
theorem mod_gal {M:Model} {A:Around} {E:Value->Shared->Prop} {s:Shared} {f:SortSt->SortSt} {Q:PUnit->SortSt->Prop} {st:SortSt} (hf:Kp st (f st)) (h:∀ t,Kp st t->Q PUnit.unit t):wpS M A E s (modify f) Q st:=wpS_modify (h _ hf)
theorem ite_wp {α:Type} {c:Prop} [Decidable c] {x y:SM α} {M:Model} {A:Around} {E:Value->Shared->Prop} {s:Shared} {Q:α->SortSt->Prop} {st:SortSt} (h1:c->wpS M A E s x Q st) (h2:¬ c->wpS M A E s y Q st):wpS M A E s (if c then x else y) Q st:=by
 split
 ·exact h1 (by assumption)
 ·exact h2 (by assumption)
theorem mem_td {l:List Keyed} {i k:Nat} {x:Keyed} (h:x∈(l.drop i).take k):∃ t,t < k/\∃ hh:i+t < l.length,x=l[i+t]:=by
 obtain ⟨t,ht,e⟩:=List.getElem_of_mem h
 rw [List.length_take,List.length_drop] at ht
 refine ⟨t,by omega,by omega,?_⟩
 rw [<- e,List.getElem_take,List.getElem_drop]
theorem up_at {l:List Keyed} {i j:Nat} (pw:l.Pairwise (kl κ)) (ij:i<=j) (hj:j < l.length):kl κ l[i] l[j]:=by
 rcases Nat.lt_or_ge i j with q | q
 ·exact List.pairwise_iff_getElem.mp pw i j (by omega) hj q
 ·have:i=j:=by omega
  subst this
  exact KeyOrd.kle_refl _
theorem gal_mono {left:Bool} {key:Keyed} {arr:Array Keyed} {base n:Nat} (pw:arr.toList.Pairwise (kl κ)) (hn:base+n<=arr.size):∀ i j,i<=j->j < n->bey κ left key arr base j=true->bey κ left key arr base i=true:=fun i j ij jn e=>by
 have k:=up_at pw (i:=base+i) (j:=base+j) (by omega) (by rw [Array.length_toList];omega)
 rw [Array.getElem_toList,Array.getElem_toList] at k
 unfold bey at e ⊢
 rw [KK_at (show base+i < arr.size by omega)]
 rw [KK_at (show base+j < arr.size by omega)] at e
 cases left with
 | true =>
  rw [if_pos rfl] at e ⊢
  exact KeyOrd.klt_of_kle_of_klt k e
 | false =>
  rw [if_neg Bool.false_ne_true] at e ⊢
  have e':κ.blt (kof κ key) (kof κ arr[base+j])=false:=by simpa using e
  have:κ.blt (kof κ key) (kof κ arr[base+i])=false:=KeyOrd.kle_trans k e'
  rw [this]
  rfl
theorem leapR {key:Keyed} {arr:Array Keyed} {base n k:Nat} (sp:Spot (bey κ false key arr base) n k) (hn:base+n<=arr.size):(∀ t (h:base+t < arr.size),t < k->kl κ arr[base+t] key)/\∀ t (h:base+t < arr.size),k<=t->t < n->κ.blt (kof κ key) (kof κ arr[base+t])=true:=by
 refine ⟨fun t h tk=>?_,fun t h kt tn=>?_⟩
 ·have:=sp.lo t tk
  unfold bey at this
  rw [if_neg Bool.false_ne_true,KK_at h] at this
  have e:κ.blt (kof κ key) (kof κ arr[base+t])=false:=by simpa using this
  exact e
 ·have:=sp.hi t kt tn
  unfold bey at this
  rw [if_neg Bool.false_ne_true,KK_at h] at this
  simpa using this
theorem leapL {key:Keyed} {arr:Array Keyed} {base n k:Nat} (sp:Spot (bey κ true key arr base) n k) (hn:base+n<=arr.size):(∀ t (h:base+t < arr.size),t < k->kl κ arr[base+t] key)/\(∀ t (h:base+t < arr.size),t < k->κ.blt (kof κ arr[base+t]) (kof κ key)=true)/\∀ t (h:base+t < arr.size),k<=t->t < n->kl κ key arr[base+t]:=by
 refine ⟨fun t h tk=>?_,fun t h tk=>?_,fun t h kt tn=>?_⟩
 ·have:=sp.lo t tk
  unfold bey at this
  rw [if_pos rfl,KK_at h] at this
  exact kl_of_lt this
 ·have:=sp.lo t tk
  unfold bey at this
  rw [if_pos rfl,KK_at h] at this
  exact this
 ·have:=sp.hi t kt tn
  unfold bey at this
  rw [if_pos rfl,KK_at h] at this
  exact kl_of_not this
theorem lo_ok {st:SortSt} {a b:Array Keyed} {R:Array Keyed->SortSt->Prop} (C:CmpS prog w A E s src kd κ) (q:OkS src kd st) (suba:Sub a st) (subb:Sub b st) (sa:a.toList.Pairwise (kl κ)) (sb:b.toList.Pairwise (kl κ)) (a1:1<=a.size) (b1:1<=b.size)
  (first:∀ y∈a,kl κ b[0] y) (last:∀ x∈b,kl κ x a[a.size - 1]) (h:∀ r t,Kp st t->Mgd κ a.toList b.toList r.toList->R r t):wpS (model prog w) A E s (loP a b) R st:=by
 have lA:a.toList.length=a.size:=Array.length_toList
 have lB:b.toList.length=b.size:=Array.length_toList
 have ext:∀ (x:Array Keyed) (i j:Nat),(x.extract i j).toList=(x.toList.drop i).take (j - i):=fun x i j=>by rw [Array.toList_extract,List.extract_eq_drop_take]
 have rest:∀ (x:Array Keyed) (i:Nat),(x.extract i).toList=x.toList.drop i:=fun x i=>by rw [ext,List.take_of_length_le (by rw [List.length_drop,Array.length_toList];omega)]
 have doneE:∀ (out:Array Keyed) (ia ib:Nat),(out++a.extract ia++b.extract ib).toList=out.toList++a.toList.drop ia++b.toList.drop ib:=fun out ia ib=>by rw [Array.toList_append,Array.toList_append,rest,rest]
 have lastE:∀ (out:Array Keyed) (ia ib:Nat),(out++b.extract ib++a.extract ia).toList=out.toList++b.toList.drop ib++a.toList.drop ia:=fun out ia ib=>by rw [Array.toList_append,Array.toList_append,rest,rest]
 have one:∀ (x:Array Keyed) (i:Nat) (hi:i < x.size),(x.toList.drop i).take 1=[x[i]]:=fun x i hi=>by rw [drop_head (by rw [Array.length_toList];exact hi)];simp
 have lst:∀ {out:Array Keyed} {ia ib:Nat},MI κ a.toList b.toList out.toList ia ib->ia+1=a.size->Mgd κ a.toList b.toList (out++b.extract ib++a.extract ia).toList:=fun {out ia ib} m e=>by
  rw [lastE]
  refine m.last fun x hx y hy=>?_
  have:=one a ia (by omega)
  rw [List.take_of_length_le (by rw [List.length_drop,lA];omega)] at this
  rw [this] at hy
  rw [List.mem_singleton.mp hy]
  have:=last x (by simpa using hx)
  have e2:a.size - 1=ia:=by omega
  simpa [e2] using this
 have stepB:∀ {out:Array Keyed} {ia ib:Nat} (h1:ia < a.size) (h2:ib < b.size),MI κ a.toList b.toList out.toList ia ib->kl κ b[ib] a[ia]->MI κ a.toList b.toList (out.push b[ib]).toList ia (ib+1):=fun {out ia ib} h1 h2 m le=>by
  have:=m.takeB (k:=1) fun x hx y hy=>by
   rw [one b ib h2] at hx
   rw [List.mem_singleton.mp hx]
   exact head_le m.sa (by rw [lA];exact h1) (by simpa using le) y hy
  rw [one b ib h2] at this
  simpa using this
 have stepA:∀ {out:Array Keyed} {ia ib:Nat} (h1:ia < a.size) (h2:ib < b.size),MI κ a.toList b.toList out.toList ia ib->kl κ a[ia] b[ib]->MI κ a.toList b.toList (out.push a[ia]).toList (ia+1) ib:=fun {out ia ib} h1 h2 m le=>by
  have:=m.takeA (k:=1) fun x hx y hy=>by
   rw [one a ia h1] at hx
   rw [List.mem_singleton.mp hx]
   exact head_le m.sb (by rw [lB];exact h2) (by simpa using le) y hy
  rw [one a ia h1] at this
  simpa using this
 have m0:MI κ a.toList b.toList (#[b[0]]:Array Keyed).toList 0 1:=by
  have:=stepB (out:=#[]) (ia:=0) (ib:=0) (by omega) (by omega) (MI.start sa sb) (first a[0] (Array.getElem_mem (by omega)))
  simpa using this
 refine wpS_bind (wpS_lift (wpAny_rule ⟨rfl,?_⟩))
 refine wpS_bind (elem_ok (by omega) ?_)
 dsimp only
 by_cases c1:1=b.size
 ·rw [if_pos (by simpa using c1)]
  refine wpS_pure (h _ st (Kp.refl st) ?_)
  rw [doneE]
  exact m0.endB (by omega)
 rw [if_neg (by simpa using c1)]
 by_cases c2:0+1=a.size
 ·rw [if_pos (by simpa using c2)]
  exact wpS_pure (h _ st (Kp.refl st) (lst m0 c2))
 rw [if_neg (by simpa using c2)]
 refine wpS_bind (wpS_get ?_)
 refine wpS_bind (wpS_mono (wpS_forRange (I:=fun x c t=>Kp st t/\∃ out ia ib g,c=(none,out,ia,ib,g)/\MI κ a.toList b.toList out.toList ia ib/\ia+1 < a.size/\ib < b.size/\x+1<=ia+ib)
  (Q:=fun c t=>Kp st t/\∃ r y,c=(some r,y)/\Mgd κ a.toList b.toList r.toList) (fun x c t _ xn z=>?_) (fun c t z=>?_) ⟨Kp.refl st,_,0,1,_,rfl,m0,by omega,by omega,by omega⟩) fun c t z=>?_)
 ·obtain ⟨kp,out,ia,ib,g,rfl,m,la,lb,pr⟩:=z
  dsimp only
  refine wpS_bind (wpS_mono (wpS_forRange (I:=fun y c t'=>Kp st t'/\∃ out ia' ib' ac bc,c=(none,out,ia',ib',ac,bc)/\MI κ a.toList b.toList out.toList ia' ib'/\ia'+1 < a.size/\ib' < b.size/\y+(ia+ib)<=ia'+ib')
   (Q:=fun c t'=>Kp st t'/\((∃ r y,c=(some r,y)/\Mgd κ a.toList b.toList r.toList)\/∃ out ia' ib' ac bc,c=(none,out,ia',ib',ac,bc)/\MI κ a.toList b.toList out.toList ia' ib'/\ia'+1 < a.size/\ib' < b.size/\ia+ib < ia'+ib')) (fun y c t' _ yn z=>?_) (fun c t' z=>?_) ⟨kp,_,ia,ib,_,_,rfl,m,la,lb,by omega⟩) fun c t' z=>?_)
  ·obtain ⟨kp,out,ia',ib',ac,bc,rfl,m,la,lb,pr'⟩:=z
   dsimp only
   refine wpS_bind (elem_ok lb ?_)
   refine wpS_bind (elem_ok (by omega) ?_)
   refine wpS_bind (lt_ok C (kp.ok q) (kp.sub subb _ (Array.getElem_mem lb)) (kp.sub suba _ (Array.getElem_mem (by omega))) ?_)
   cases e:κ.blt (kof κ b[ib']) (kof κ a[ia']) with
   | true =>
    dsimp only
    rw [if_pos rfl]
    refine wpS_bind (elem_ok lb ?_)
    have m':=stepB (by omega) lb m (kl_of_lt e)
    by_cases d:ib'+1=b.size
    ·rw [if_pos (by simpa using d)]
     refine wpS_pure ⟨kp,.inl ⟨_,_,rfl,?_⟩⟩
     rw [doneE]
     exact m'.endB (by omega)
    ·rw [if_neg (by simpa using d)]
     refine ite_wp (fun _=>wpS_pure ⟨kp,.inr ⟨_,_,_,_,_,rfl,m',la,by omega,by omega⟩⟩) (fun _=>wpS_pure ⟨kp,_,_,_,_,_,rfl,m',la,by omega,by omega⟩)
   | false =>
    dsimp only
    rw [if_neg Bool.false_ne_true]
    refine wpS_bind (elem_ok (by omega) ?_)
    have m':=stepA (by omega) lb m (kl_of_not e)
    by_cases d:ia'+1+1=a.size
    ·rw [if_pos (by simpa using d)]
     exact wpS_pure ⟨kp,.inl ⟨_,_,rfl,lst m' d⟩⟩
    ·rw [if_neg (by simpa using d)]
     refine ite_wp (fun _=>wpS_pure ⟨kp,.inr ⟨_,_,_,_,_,rfl,m',by omega,lb,by omega⟩⟩) (fun _=>wpS_pure ⟨kp,_,_,_,_,_,rfl,m',by omega,lb,by omega⟩)
  ·obtain ⟨kp,out,ia',ib',ac,bc,rfl,m,la,lb,pr'⟩:=z
   omega
  ·obtain ⟨kp,⟨r,y,rfl,md⟩ | ⟨out,ia',ib',ac,bc,rfl,m,la,lb,pr'⟩⟩:=z
   ·exact wpS_pure ⟨kp,r,_,rfl,md⟩
   ·dsimp only
    refine wpS_bind (wpS_lift (wpAny_rule ⟨rfl,?_⟩))
    refine wpS_bind (wpS_mono (wpS_forRange (I:=fun y c t2=>Kp st t2/\∃ out i j g ac bc,c=(none,out,i,j,g,ac,bc)/\MI κ a.toList b.toList out.toList i j/\i+1 < a.size/\j < b.size/\y+(ia'+ib')<=i+j)
     (Q:=fun c t2=>Kp st t2/\((∃ r y,c=(some r,y)/\Mgd κ a.toList b.toList r.toList)\/∃ out i j g ac bc,c=(none,out,i,j,g,ac,bc)/\MI κ a.toList b.toList out.toList i j/\i+1 < a.size/\j < b.size/\ia'+ib'<=i+j)) (fun y c t2 _ yn z=>?_) (fun c t2 z=>?_) ⟨kp,_,ia',ib',_,_,_,rfl,m,la,lb,by omega⟩) fun c t2 z=>?_)
    ·obtain ⟨kp,out,i,j,g,ac,bc,rfl,m,la,lb,pr'⟩:=z
     dsimp only
     refine ite_wp (fun _=>?_) (fun _=>?_)
     all_goals
      refine wpS_bind (mod_gal ⟨rfl,rfl,rfl,rfl⟩ fun t3 k3=>?_)
      refine wpS_bind (elem_ok lb ?_)
      have kp':=kp.trans k3
      refine wpS_bind (gal_ok C (kp'.ok q) (kp'.sub subb _ (Array.getElem_mem lb)) (kp'.sub suba) (by omega) (by omega) (gal_mono sa (by omega)) fun k sp=>?_)
      have le1:=sp.le
      obtain ⟨lo1,hi1⟩:=leapR sp (by omega)
      have mA:MI κ a.toList b.toList (out.toList++(a.toList.drop i).take k) (i+k) j:=m.takeA fun x hx y hy=>by
       obtain ⟨t,tk,hh,rfl⟩:=mem_td hx
       rw [lA] at hh
       have:=lo1 t hh tk
       exact head_le m.sb (by rw [lB];exact lb) (by simpa using this) y hy
      dsimp only
      refine ite_wp (fun kpos=>?_) (fun kz=>?_)
      ·have eo:(out++a.extract i (i+k)).toList=out.toList++(a.toList.drop i).take k:=by rw [Array.toList_append,ext,Nat.add_sub_cancel_left]
       rw [<- eo] at mA
       generalize out++a.extract i (i+k)=out1 at mA ⊢
       by_cases d1:i+k+1=a.size
       ·rw [if_pos (by simpa using d1)]
        exact wpS_pure ⟨kp',.inl ⟨_,_,rfl,lst mA d1⟩⟩
       rw [if_neg (by simpa using d1)]
       by_cases d2:i+k=a.size
       ·rw [if_pos (by simpa using d2)]
        refine wpS_pure ⟨kp',.inl ⟨_,_,rfl,?_⟩⟩
        rw [doneE]
        exact mA.endA (by omega)
       rw [if_neg (by simpa using d2)]
       have hb1:=hi1 k (by omega) (Nat.le_refl _) (by omega)
       refine wpS_bind (elem_ok lb ?_)
       have mB:=stepB (by omega) lb mA (kl_of_lt hb1)
       by_cases d3:j+1=b.size
       ·rw [if_pos (by simpa using d3)]
        refine wpS_pure ⟨kp',.inl ⟨_,_,rfl,?_⟩⟩
        rw [doneE]
        exact mB.endB (by omega)
       rw [if_neg (by simpa using d3)]
       refine wpS_bind (elem_ok (by omega) ?_)
       refine wpS_bind (gal_ok C (kp'.ok q) (kp'.sub suba _ (Array.getElem_mem (by omega))) (kp'.sub subb) (by omega) (by omega) (gal_mono sb (by omega)) fun k2 sp2=>?_)
       have le2:=sp2.le
       obtain ⟨lo2,_,hi2⟩:=leapL sp2 (by omega)
       have hia:i+k < a.size:=by omega
       have mC:=mB.takeB (k:=k2) fun x hx y hy=>by
        obtain ⟨t,tk,hh,rfl⟩:=mem_td hx
        rw [lB] at hh
        have:=lo2 t hh tk
        exact head_le mB.sa (by rw [lA];exact hia) (by simpa using this) y hy
       dsimp only
       refine ite_wp (fun kpos2=>?_) (fun kz2=>?_)
       ·have eo2:∀ (o:Array Keyed),(o++b.extract (j+1) (j+1+k2)).toList=o.toList++(b.toList.drop (j+1)).take k2:=fun o=>by rw [Array.toList_append,ext,Nat.add_sub_cancel_left]
        rw [<- eo2] at mC
        by_cases d4:j+1+k2=b.size
        ·rw [if_pos (by simpa using d4)]
         refine wpS_pure ⟨kp',.inl ⟨_,_,rfl,?_⟩⟩
         rw [doneE]
         exact mC.endB (by omega)
        rw [if_neg (by simpa using d4)]
        refine wpS_bind (elem_ok (by omega) ?_)
        have mD:=stepA hia (by omega) mC (hi2 k2 (by omega) (Nat.le_refl _) (by omega))
        by_cases d5:i+k+1+1=a.size
        ·rw [if_pos (by simpa using d5)]
         exact wpS_pure ⟨kp',.inl ⟨_,_,rfl,lst mD d5⟩⟩
        rw [if_neg (by simpa using d5)]
        exact ite_wp (fun _=>wpS_pure ⟨kp',.inr ⟨_,_,_,_,_,_,rfl,mD,by omega,by omega,by omega⟩⟩) (fun _=>wpS_pure ⟨kp',_,_,_,_,_,_,rfl,mD,by omega,by omega,by omega⟩)
       ·have k20:k2=0:=by omega
        subst k20
        refine wpS_bind (elem_ok (by omega) ?_)
        have mD:=stepA hia (by omega) mB (hi2 0 (by omega) (Nat.le_refl _) (by omega))
        by_cases d5:i+k+1+1=a.size
        ·rw [if_pos (by simpa using d5)]
         exact wpS_pure ⟨kp',.inl ⟨_,_,rfl,lst mD d5⟩⟩
        rw [if_neg (by simpa using d5)]
        exact ite_wp (fun _=>wpS_pure ⟨kp',.inr ⟨_,_,_,_,_,_,rfl,mD,by omega,by omega,by omega⟩⟩) (fun _=>wpS_pure ⟨kp',_,_,_,_,_,_,rfl,mD,by omega,by omega,by omega⟩)
      ·have k0:k=0:=by omega
       subst k0
       have hb1:=hi1 0 (by omega) (Nat.le_refl _) (by omega)
       refine wpS_bind (elem_ok lb ?_)
       have mB:=stepB (by omega) lb m (kl_of_lt hb1)
       by_cases d3:j+1=b.size
       ·rw [if_pos (by simpa using d3)]
        refine wpS_pure ⟨kp',.inl ⟨_,_,rfl,?_⟩⟩
        rw [doneE]
        exact mB.endB (by omega)
       rw [if_neg (by simpa using d3)]
       refine wpS_bind (elem_ok (by omega) ?_)
       refine wpS_bind (gal_ok C (kp'.ok q) (kp'.sub suba _ (Array.getElem_mem (by omega))) (kp'.sub subb) (by omega) (by omega) (gal_mono sb (by omega)) fun k2 sp2=>?_)
       have le2:=sp2.le
       obtain ⟨lo2,_,hi2⟩:=leapL sp2 (by omega)
       have hia:i < a.size:=by omega
       have mC:=mB.takeB (k:=k2) fun x hx y hy=>by
        obtain ⟨t,tk,hh,rfl⟩:=mem_td hx
        rw [lB] at hh
        have:=lo2 t hh tk
        exact head_le mB.sa (by rw [lA];exact hia) (by simpa using this) y hy
       dsimp only
       refine ite_wp (fun kpos2=>?_) (fun kz2=>?_)
       ·have eo2:∀ (o:Array Keyed),(o++b.extract (j+1) (j+1+k2)).toList=o.toList++(b.toList.drop (j+1)).take k2:=fun o=>by rw [Array.toList_append,ext,Nat.add_sub_cancel_left]
        rw [<- eo2] at mC
        by_cases d4:j+1+k2=b.size
        ·rw [if_pos (by simpa using d4)]
         refine wpS_pure ⟨kp',.inl ⟨_,_,rfl,?_⟩⟩
         rw [doneE]
         exact mC.endB (by omega)
        rw [if_neg (by simpa using d4)]
        refine wpS_bind (elem_ok (by omega) ?_)
        have mD:=stepA hia (by omega) mC (hi2 k2 (by omega) (Nat.le_refl _) (by omega))
        by_cases d5:i+1+1=a.size
        ·rw [if_pos (by simpa using d5)]
         exact wpS_pure ⟨kp',.inl ⟨_,_,rfl,lst mD d5⟩⟩
        rw [if_neg (by simpa using d5)]
        exact ite_wp (fun _=>wpS_pure ⟨kp',.inr ⟨_,_,_,_,_,_,rfl,mD,by omega,by omega,by omega⟩⟩) (fun _=>wpS_pure ⟨kp',_,_,_,_,_,_,rfl,mD,by omega,by omega,by omega⟩)
       ·have k20:k2=0:=by omega
        subst k20
        refine wpS_bind (elem_ok (by omega) ?_)
        have mD:=stepA hia (by omega) mB (hi2 0 (by omega) (Nat.le_refl _) (by omega))
        by_cases d5:i+1+1=a.size
        ·rw [if_pos (by simpa using d5)]
         exact wpS_pure ⟨kp',.inl ⟨_,_,rfl,lst mD d5⟩⟩
        rw [if_neg (by simpa using d5)]
        exact ite_wp (fun _=>wpS_pure ⟨kp',.inr ⟨_,_,_,_,_,_,rfl,mD,by omega,by omega,by omega⟩⟩) (fun _=>wpS_pure ⟨kp',_,_,_,_,_,_,rfl,mD,by omega,by omega,by omega⟩)
    ·obtain ⟨kp,out,i,j,g,ac,bc,rfl,m,la,lb,pr'⟩:=z
     omega
    ·obtain ⟨kp,⟨r,y,rfl,md⟩ | ⟨out,i,j,g,ac,bc,rfl,m,la,lb,pr''⟩⟩:=z
     ·exact wpS_pure ⟨kp,r,_,rfl,md⟩
     ·dsimp only
      refine wpS_bind (wpS_modify (wpS_pure ⟨⟨kp.ar,kp.kn,kp.pn,kp.fl⟩,_,_,_,_,rfl,m,la,lb,by omega⟩))
 ·obtain ⟨kp,out,ia,ib,g,rfl,m,la,lb,pr⟩:=z
  omega
 ·obtain ⟨kp,r,y,rfl,md⟩:=z
  exact wpS_pure (h r t kp md)
theorem mem_dt {l:List Keyed} {i n:Nat} {x:Keyed} (h:x∈(l.take n).drop i):∃ t,(i<=t/\t < n)/\∃ hh:t < l.length,x=l[t]:=by
 obtain ⟨t,ht,e⟩:=List.getElem_of_mem h
 rw [List.length_drop,List.length_take] at ht
 refine ⟨i+t,⟨by omega,by omega⟩,by omega,?_⟩
 rw [<- e,List.getElem_drop,List.getElem_take]
theorem hi_ok {st:SortSt} {a b:Array Keyed} {R:Array Keyed->SortSt->Prop} (C:CmpS prog w A E s src kd κ) (q:OkS src kd st) (suba:Sub a st) (subb:Sub b st) (sa:a.toList.Pairwise (kl κ)) (sb:b.toList.Pairwise (kl κ)) (a1:1<=a.size) (b1:1<=b.size)
  (first:∀ y∈a,kl κ b[0] y) (last:∀ x∈b,kl κ x a[a.size - 1]) (h:∀ r t,Kp st t->Mgd κ a.toList b.toList r.toList->R r t):wpS (model prog w) A E s (hiP a b) R st:=by
 have lA:a.toList.length=a.size:=Array.length_toList
 have lB:b.toList.length=b.size:=Array.length_toList
 have ext:∀ (x:Array Keyed) (i j:Nat),(x.extract i j).toList=(x.toList.take j).drop i:=fun x i j=>by rw [Array.toList_extract,List.extract_eq_drop_take,List.drop_take]
 have ex0:∀ (x:Array Keyed) (j:Nat),(x.extract 0 j).toList=x.toList.take j:=fun x j=>by rw [ext,List.drop_zero]
 have exA:∀ (out:Array Keyed) (i n:Nat),(out++(a.extract i n).reverse).toList.reverse=(a.toList.take n).drop i++out.toList.reverse:=fun out i n=>by rw [Array.toList_append,List.reverse_append,Array.toList_reverse,List.reverse_reverse,ext]
 have exB:∀ (out:Array Keyed) (i n:Nat),(out++(b.extract i n).reverse).toList.reverse=(b.toList.take n).drop i++out.toList.reverse:=fun out i n=>by rw [Array.toList_append,List.reverse_append,Array.toList_reverse,List.reverse_reverse,ext]
 have doneE:∀ (out:Array Keyed) (na nb:Nat),(a.extract 0 na++b.extract 0 nb++out.reverse).toList=a.toList.take na++b.toList.take nb++out.toList.reverse:=fun out na nb=>by rw [Array.toList_append,Array.toList_append,ex0,ex0,Array.toList_reverse]
 have fstE:∀ (out:Array Keyed) (na nb:Nat),(b.extract 0 nb++a.extract 0 na++out.reverse).toList=b.toList.take nb++a.toList.take na++out.toList.reverse:=fun out na nb=>by rw [Array.toList_append,Array.toList_append,ex0,ex0,Array.toList_reverse]
 have one:∀ (x:Array Keyed) (n:Nat) (h1:1<=n) (hn:n - 1 < x.size),(x.toList.take n).drop (n - 1)=[x[n - 1]]:=fun x n h1 hn=>by
  have e:n=n - 1+1:=by omega
  conv=>lhs;rw [e,List.take_succ_eq_append_getElem (show n - 1 < x.toList.length by rw [Array.length_toList];exact hn)]
  rw [List.drop_append_of_le_length (by rw [List.length_take];simp;omega),List.drop_of_length_le (by rw [List.length_take];omega)]
  simp
 have fst:∀ {out:Array Keyed} {na nb:Nat},MJ κ a.toList b.toList out.toList.reverse na nb->nb=1->Mgd κ a.toList b.toList (b.extract 0 nb++a.extract 0 na++out.reverse).toList:=fun {out na nb} m e=>by
  rw [fstE]
  refine m.first fun x hx y hy=>?_
  subst e
  have t1:b.toList.take 1=[b[0]]:=(one b 1 (Nat.le_refl _) (by omega):b.toList.take 1=[b[0]])
  rw [t1] at hx
  rw [List.mem_singleton.mp hx]
  exact first y (by simpa using hy)
 have stepA:∀ {out:Array Keyed} {na nb:Nat} (h1:1<=na) (h2:na - 1 < a.size) (h3:1<=nb) (h4:nb - 1 < b.size),MJ κ a.toList b.toList out.toList.reverse na nb->kl κ b[nb - 1] a[na - 1]->MJ κ a.toList b.toList (out.push a[na - 1]).toList.reverse (na - 1) nb:=fun {out na nb} h1 h2 h3 h4 m le=>by
  have:=m.takeA (i:=na - 1) (by omega) fun x hx y hy=>by
   rw [one a na h1 h2] at hy
   rw [List.mem_singleton.mp hy]
   have e1:nb - 1+1=nb:=by omega
   have sb':=m.sb
   rw [<- e1] at sb' hx
   exact last_ge sb' (by rw [lB];exact h4) (by simpa using le) x hx
  rw [one a na h1 h2] at this
  simpa using this
 have stepB:∀ {out:Array Keyed} {na nb:Nat} (h1:1<=na) (h2:na - 1 < a.size) (h3:1<=nb) (h4:nb - 1 < b.size),MJ κ a.toList b.toList out.toList.reverse na nb->kl κ a[na - 1] b[nb - 1]->MJ κ a.toList b.toList (out.push b[nb - 1]).toList.reverse na (nb - 1):=fun {out na nb} h1 h2 h3 h4 m le=>by
  have:=m.takeB (i:=nb - 1) (by omega) fun x hx y hy=>by
   rw [one b nb h3 h4] at hy
   rw [List.mem_singleton.mp hy]
   have e1:na - 1+1=na:=by omega
   have sa':=m.sa
   rw [<- e1] at sa' hx
   exact last_ge sa' (by rw [lA];exact h2) (by simpa using le) x hx
  rw [one b nb h3 h4] at this
  simpa using this
 have m0:MJ κ a.toList b.toList (#[a[a.size - 1]]:Array Keyed).toList.reverse (a.size - 1) b.size:=by
  have st0:=MJ.start sa sb
  rw [lA,lB] at st0
  have:=stepA (out:=#[]) (na:=a.size) (nb:=b.size) (by omega) (by omega) (by omega) (by omega) st0 (last _ (Array.getElem_mem (by omega)))
  simpa using this
 refine wpS_bind (wpS_lift (wpAny_rule ⟨rfl,?_⟩))
 refine wpS_bind (elem_ok (by omega) ?_)
 dsimp only
 by_cases c1:a.size - 1=0
 ·rw [if_pos (by simpa using c1)]
  refine wpS_pure (h _ st (Kp.refl st) ?_)
  rw [doneE]
  exact m0.endA c1
 rw [if_neg (by simpa using c1)]
 by_cases c2:b.size=1
 ·rw [if_pos (by simpa using c2)]
  exact wpS_pure (h _ st (Kp.refl st) (fst m0 c2))
 rw [if_neg (by simpa using c2)]
 refine wpS_bind (wpS_get ?_)
 refine wpS_bind (wpS_mono (wpS_forRange (I:=fun x c t=>Kp st t/\∃ na nb out g,c=(none,na,nb,out,g)/\MJ κ a.toList b.toList out.toList.reverse na nb/\1<=na/\2<=nb/\na<=a.size/\nb<=b.size/\x+(na+nb)<=a.size+b.size)
  (Q:=fun c t=>Kp st t/\∃ r y,c=(some r,y)/\Mgd κ a.toList b.toList r.toList) (fun x c t _ xn z=>?_) (fun c t z=>?_) ⟨Kp.refl st,_,_,_,_,rfl,m0,by omega,by omega,by omega,by omega,by omega⟩) fun c t z=>?_)
 ·obtain ⟨kp,na0,nb0,out,g,rfl,m,ga,gb,la,lb,pr⟩:=z
  dsimp only
  refine wpS_bind (wpS_mono (wpS_forRange (I:=fun y c t'=>Kp st t'/\∃ na nb out ac bc,c=(none,na,nb,out,ac,bc)/\MJ κ a.toList b.toList out.toList.reverse na nb/\1<=na/\2<=nb/\na<=a.size/\nb<=b.size/\y+(na+nb)<=na0+nb0)
   (Q:=fun c t'=>Kp st t'/\((∃ r y,c=(some r,y)/\Mgd κ a.toList b.toList r.toList)\/∃ na nb out ac bc,c=(none,na,nb,out,ac,bc)/\MJ κ a.toList b.toList out.toList.reverse na nb/\1<=na/\2<=nb/\na<=a.size/\nb<=b.size/\na+nb < na0+nb0)) (fun y c t' _ yn z=>?_) (fun c t' z=>?_) ⟨kp,_,_,_,_,_,rfl,m,ga,gb,la,lb,by omega⟩) fun c t' z=>?_)
  ·obtain ⟨kp,na,nb,out,ac,bc,rfl,m,ga,gb,la,lb,pr'⟩:=z
   dsimp only
   have nb1:nb - 1 < b.size:=by omega
   have na1:na - 1 < a.size:=by omega
   refine wpS_bind (elem_ok nb1 ?_)
   refine wpS_bind (elem_ok na1 ?_)
   refine wpS_bind (lt_ok C (kp.ok q) (kp.sub subb _ (Array.getElem_mem nb1)) (kp.sub suba _ (Array.getElem_mem na1)) ?_)
   cases e:κ.blt (kof κ b[nb - 1]) (kof κ a[na - 1]) with
   | true =>
    dsimp only
    rw [if_pos rfl]
    refine wpS_bind (elem_ok na1 ?_)
    have m':=stepA ga na1 (by omega) nb1 m (kl_of_lt e)
    by_cases d:na - 1=0
    ·rw [if_pos (by simpa using d)]
     refine wpS_pure ⟨kp,.inl ⟨_,_,rfl,?_⟩⟩
     rw [doneE]
     exact m'.endA d
    ·rw [if_neg (by simpa using d)]
     refine ite_wp (fun _=>wpS_pure ⟨kp,.inr ⟨_,_,_,_,_,rfl,m',by omega,gb,by omega,lb,by omega⟩⟩) (fun _=>wpS_pure ⟨kp,_,_,_,_,_,rfl,m',by omega,gb,by omega,lb,by omega⟩)
   | false =>
    dsimp only
    rw [if_neg Bool.false_ne_true]
    refine wpS_bind (elem_ok nb1 ?_)
    have m':=stepB ga na1 (by omega) nb1 m (kl_of_not e)
    by_cases d:nb - 1=1
    ·rw [if_pos (by simpa using d)]
     exact wpS_pure ⟨kp,.inl ⟨_,_,rfl,fst m' d⟩⟩
    ·rw [if_neg (by simpa using d)]
     refine ite_wp (fun _=>wpS_pure ⟨kp,.inr ⟨_,_,_,_,_,rfl,m',ga,by omega,la,by omega,by omega⟩⟩) (fun _=>wpS_pure ⟨kp,_,_,_,_,_,rfl,m',ga,by omega,la,by omega,by omega⟩)
  ·obtain ⟨kp,na,nb,out,ac,bc,rfl,m,ga,gb,la,lb,pr'⟩:=z
   omega
  ·obtain ⟨kp,⟨r,y,rfl,md⟩ | ⟨na',nb',out,ac,bc,rfl,m,ga,gb,la,lb,pr'⟩⟩:=z
   ·exact wpS_pure ⟨kp,r,_,rfl,md⟩
   ·dsimp only
    refine wpS_bind (wpS_lift (wpAny_rule ⟨rfl,?_⟩))
    refine wpS_bind (wpS_mono (wpS_forRange (I:=fun y c t2=>Kp st t2/\∃ na nb out g ac bc,c=(none,na,nb,out,g,ac,bc)/\MJ κ a.toList b.toList out.toList.reverse na nb/\1<=na/\2<=nb/\na<=a.size/\nb<=b.size/\y+(na+nb)<=na'+nb')
     (Q:=fun c t2=>Kp st t2/\((∃ r y,c=(some r,y)/\Mgd κ a.toList b.toList r.toList)\/∃ na nb out g ac bc,c=(none,na,nb,out,g,ac,bc)/\MJ κ a.toList b.toList out.toList.reverse na nb/\1<=na/\2<=nb/\na<=a.size/\nb<=b.size/\na+nb<=na'+nb')) (fun y c t2 _ yn z=>?_) (fun c t2 z=>?_) ⟨kp,_,_,_,_,_,_,rfl,m,ga,gb,la,lb,by omega⟩) fun c t2 z=>?_)
    ·obtain ⟨kp,na,nb,out,g,ac,bc,rfl,m,ga,gb,la,lb,pr'⟩:=z
     dsimp only
     refine ite_wp (fun _=>?_) (fun _=>?_)
     all_goals
      refine wpS_bind (mod_gal ⟨rfl,rfl,rfl,rfl⟩ fun t3 k3=>?_)
      have nb1':nb - 1 < b.size:=by omega
      refine wpS_bind (elem_ok nb1' ?_)
      have kp':=kp.trans k3
      refine wpS_bind (gal_ok C (kp'.ok q) (kp'.sub subb _ (Array.getElem_mem nb1')) (kp'.sub suba) (by omega) (by omega) (gal_mono sa (by omega)) fun at1 sp=>?_)
      have le1:=sp.le
      obtain ⟨lo1,hi1⟩:=leapR sp (by omega)
      simp only [Nat.zero_add] at lo1 hi1
      dsimp only
      refine ite_wp (fun kpos=>?_) (fun kz=>?_)
      ·have mA:=m.takeA (i:=at1) le1 fun x hx y hy=>by
        obtain ⟨t,t1,hh,rfl⟩:=mem_dt hy
        rw [lA] at hh
        have:=kl_of_lt (hi1 t hh t1.1 t1.2)
        have e1:nb - 1+1=nb:=by omega
        have hx':x∈b.toList.take (nb - 1+1):=by rw [e1];exact hx
        have sb':=m.sb
        rw [<- e1] at sb'
        exact last_ge sb' (by rw [lB];exact nb1') (by simpa using this) x hx'
       rw [<- exA] at mA
       generalize out++(a.extract at1 na).reverse=out1 at mA ⊢
       by_cases d1:at1=0
       ·rw [if_pos (by simpa using d1)]
        refine wpS_pure ⟨kp',.inl ⟨_,_,rfl,?_⟩⟩
        rw [doneE]
        exact mA.endA d1
       rw [if_neg (by simpa using d1)]
       have lb1:=lo1 (at1 - 1) (by omega) (by omega)
       have nb1:nb - 1 < b.size:=by omega
       refine wpS_bind (elem_ok nb1 ?_)
       have mB:=stepB (by omega) (by omega) (by omega) (by omega) mA lb1
       by_cases d3:nb - 1=1
       ·rw [if_pos (by simpa using d3)]
        exact wpS_pure ⟨kp',.inl ⟨_,_,rfl,fst mB d3⟩⟩
       rw [if_neg (by simpa using d3)]
       have na1:at1 - 1 < a.size:=by omega
       refine wpS_bind (elem_ok na1 ?_)
       refine wpS_bind (gal_ok C (kp'.ok q) (kp'.sub suba _ (Array.getElem_mem na1)) (kp'.sub subb) (by omega) (by omega) (gal_mono sb (by omega)) fun at2 sp2=>?_)
       have le2:=sp2.le
       obtain ⟨lo2,_,hi2⟩:=leapL sp2 (by omega)
       simp only [Nat.zero_add] at lo2 hi2
       dsimp only
       refine ite_wp (fun kpos2=>?_) (fun kz2=>?_)
       ·have mC:=mB.takeB (i:=at2) le2 fun x hx y hy=>by
         obtain ⟨t,t1,hh,rfl⟩:=mem_dt hy
         rw [lB] at hh
         have:=hi2 t hh t1.1 t1.2
         have e1:at1 - 1+1=at1:=by omega
         have hx':x∈a.toList.take (at1 - 1+1):=by rw [e1];exact hx
         have sa':=mB.sa
         rw [<- e1] at sa'
         exact last_ge sa' (by rw [lA];exact na1) (by simpa using this) x hx'
        rw [<- exB] at mC
        by_cases d4:at2=1
        ·rw [if_pos (by simpa using d4)]
         exact wpS_pure ⟨kp',.inl ⟨_,_,rfl,fst mC d4⟩⟩
        rw [if_neg (by simpa using d4)]
        by_cases d6:at2=0
        ·rw [if_pos (by simpa using d6)]
         refine wpS_pure ⟨kp',.inl ⟨_,_,rfl,?_⟩⟩
         rw [doneE]
         exact mC.endB d6
        rw [if_neg (by simpa using d6)]
        refine wpS_bind (elem_ok na1 ?_)
        have mD:=stepA (by omega) (by omega) (by omega) (by omega) mC (lo2 (at2 - 1) (by omega) (by omega))
        by_cases d5:at1 - 1=0
        ·rw [if_pos (by simpa using d5)]
         refine wpS_pure ⟨kp',.inl ⟨_,_,rfl,?_⟩⟩
         rw [doneE]
         exact mD.endA d5
        rw [if_neg (by simpa using d5)]
        exact ite_wp (fun _=>wpS_pure ⟨kp',.inr ⟨_,_,_,_,_,_,rfl,mD,by omega,by omega,by omega,by omega,by omega⟩⟩) (fun _=>wpS_pure ⟨kp',_,_,_,_,_,_,rfl,mD,by omega,by omega,by omega,by omega,by omega⟩)
       ·refine wpS_bind (elem_ok na1 ?_)
        have mD:=stepA (by omega) (by omega) (by omega) (by omega) mB (lo2 (nb - 1 - 1) (by omega) (by omega))
        by_cases d5:at1 - 1=0
        ·rw [if_pos (by simpa using d5)]
         refine wpS_pure ⟨kp',.inl ⟨_,_,rfl,?_⟩⟩
         rw [doneE]
         exact mD.endA d5
        rw [if_neg (by simpa using d5)]
        exact ite_wp (fun _=>wpS_pure ⟨kp',.inr ⟨_,_,_,_,_,_,rfl,mD,by omega,by omega,by omega,by omega,by omega⟩⟩) (fun _=>wpS_pure ⟨kp',_,_,_,_,_,_,rfl,mD,by omega,by omega,by omega,by omega,by omega⟩)
      ·have lb1:=lo1 (na - 1) (by omega) (by omega)
       have nb1:nb - 1 < b.size:=by omega
       refine wpS_bind (elem_ok nb1 ?_)
       have mB:=stepB (by omega) (by omega) (by omega) (by omega) m lb1
       by_cases d3:nb - 1=1
       ·rw [if_pos (by simpa using d3)]
        exact wpS_pure ⟨kp',.inl ⟨_,_,rfl,fst mB d3⟩⟩
       rw [if_neg (by simpa using d3)]
       have na1:na - 1 < a.size:=by omega
       refine wpS_bind (elem_ok na1 ?_)
       refine wpS_bind (gal_ok C (kp'.ok q) (kp'.sub suba _ (Array.getElem_mem na1)) (kp'.sub subb) (by omega) (by omega) (gal_mono sb (by omega)) fun at2 sp2=>?_)
       have le2:=sp2.le
       obtain ⟨lo2,_,hi2⟩:=leapL sp2 (by omega)
       simp only [Nat.zero_add] at lo2 hi2
       dsimp only
       refine ite_wp (fun kpos2=>?_) (fun kz2=>?_)
       ·have mC:=mB.takeB (i:=at2) le2 fun x hx y hy=>by
         obtain ⟨t,t1,hh,rfl⟩:=mem_dt hy
         rw [lB] at hh
         have:=hi2 t hh t1.1 t1.2
         have e1:na - 1+1=na:=by omega
         have hx':x∈a.toList.take (na - 1+1):=by rw [e1];exact hx
         have sa':=mB.sa
         rw [<- e1] at sa'
         exact last_ge sa' (by rw [lA];exact na1) (by simpa using this) x hx'
        rw [<- exB] at mC
        by_cases d4:at2=1
        ·rw [if_pos (by simpa using d4)]
         exact wpS_pure ⟨kp',.inl ⟨_,_,rfl,fst mC d4⟩⟩
        rw [if_neg (by simpa using d4)]
        by_cases d6:at2=0
        ·rw [if_pos (by simpa using d6)]
         refine wpS_pure ⟨kp',.inl ⟨_,_,rfl,?_⟩⟩
         rw [doneE]
         exact mC.endB d6
        rw [if_neg (by simpa using d6)]
        refine wpS_bind (elem_ok na1 ?_)
        have mD:=stepA (by omega) (by omega) (by omega) (by omega) mC (lo2 (at2 - 1) (by omega) (by omega))
        by_cases d5:na - 1=0
        ·rw [if_pos (by simpa using d5)]
         refine wpS_pure ⟨kp',.inl ⟨_,_,rfl,?_⟩⟩
         rw [doneE]
         exact mD.endA d5
        rw [if_neg (by simpa using d5)]
        exact ite_wp (fun _=>wpS_pure ⟨kp',.inr ⟨_,_,_,_,_,_,rfl,mD,by omega,by omega,by omega,by omega,by omega⟩⟩) (fun _=>wpS_pure ⟨kp',_,_,_,_,_,_,rfl,mD,by omega,by omega,by omega,by omega,by omega⟩)
       ·refine wpS_bind (elem_ok na1 ?_)
        have mD:=stepA (by omega) (by omega) (by omega) (by omega) mB (lo2 (nb - 1 - 1) (by omega) (by omega))
        by_cases d5:na - 1=0
        ·rw [if_pos (by simpa using d5)]
         refine wpS_pure ⟨kp',.inl ⟨_,_,rfl,?_⟩⟩
         rw [doneE]
         exact mD.endA d5
        rw [if_neg (by simpa using d5)]
        exact ite_wp (fun _=>wpS_pure ⟨kp',.inr ⟨_,_,_,_,_,_,rfl,mD,by omega,by omega,by omega,by omega,by omega⟩⟩) (fun _=>wpS_pure ⟨kp',_,_,_,_,_,_,rfl,mD,by omega,by omega,by omega,by omega,by omega⟩)
    ·obtain ⟨kp,na,nb,out,g,ac,bc,rfl,m,ga,gb,la,lb,pr'⟩:=z
     omega
    ·obtain ⟨kp,⟨r,y,rfl,md⟩ | ⟨na,nb,out,g,ac,bc,rfl,m,ga,gb,la,lb,pr''⟩⟩:=z
     ·exact wpS_pure ⟨kp,r,_,rfl,md⟩
     ·dsimp only
      refine wpS_bind (wpS_modify (wpS_pure ⟨⟨kp.ar,kp.kn,kp.pn,kp.fl⟩,_,_,_,_,rfl,m,ga,gb,la,lb,by omega⟩))
 ·obtain ⟨kp,na,nb,out,g,rfl,m,ga,gb,la,lb,pr⟩:=z
  omega
 ·obtain ⟨kp,r,y,rfl,md⟩:=z
  exact wpS_pure (h r t kp md)
def Ris (κ:PyProof.Rows.KeyKind) (xs:Array Keyed) (lo n:Nat):Prop:=∀ i j,i<=j->j < n->κ.kle (KK κ xs (lo+i)) (KK κ xs (lo+j))
theorem ris_list {xs:Array Keyed} {lo n:Nat} (h:Ris κ xs lo n) (hn:lo+n<=xs.size):((xs.toList.drop lo).take n).Pairwise (kl κ):=by
 refine List.pairwise_iff_getElem.mpr fun i j hi hj ij=>?_
 rw [List.length_take,List.length_drop,Array.length_toList] at hi hj
 rw [List.getElem_take,List.getElem_take,List.getElem_drop,List.getElem_drop]
 have:=h i j (by omega) (by omega)
 rw [KK_at (show lo+i < xs.size by omega),KK_at (show lo+j < xs.size by omega)] at this
 exact this
theorem ris_of {xs:Array Keyed} {lo n:Nat} {Z:List Keyed} (e:(xs.toList.drop lo).take n=Z) (l:Z.length=n) (pw:Z.Pairwise (kl κ)):Ris κ xs lo n:=by
 intro i j ij jn
 have hl:((xs.toList.drop lo).take n).length=n:=by rw [e,l]
 rw [List.length_take,List.length_drop,Array.length_toList] at hl
 have h1:lo+i < xs.size:=by omega
 have h2:lo+j < xs.size:=by omega
 rw [KK_at h1,KK_at h2]
 have g:∀ (m:Nat) (hm:m < n) (hx:lo+m < xs.size),xs[lo+m]=Z[m]'(by omega):=fun m hm hx=>by
  subst e
  rw [List.getElem_take,List.getElem_drop]
  rfl
 rw [g i (by omega) h1,g j jn h2]
 exact up_at pw ij (by omega)
theorem put_list (sa:Nat):∀ (l:List Keyed) (k:Nat) (arr:Array Keyed),sa+k+l.length<=arr.size->(List.foldl (fun (a:Array Keyed) (x:Keyed × Nat)=>match x with | (p,j)=>a.setIfInBounds (sa+j) p) arr (l.zipIdx k)).toList=arr.toList.take (sa+k)++l++arr.toList.drop (sa+k+l.length)
 | [],k,arr,h=>by simp
 | x::l,k,arr,h=>by
  rw [List.length_cons] at h
  rw [List.zipIdx_cons,List.foldl_cons,put_list sa l (k+1) _ (by rw [Array.size_setIfInBounds];omega)]
  rw [Array.toList_setIfInBounds,List.length_cons]
  have lt:sa+k < arr.toList.length:=by rw [Array.length_toList];omega
  have e1:(arr.toList.set (sa+k) x).take (sa+(k+1))=arr.toList.take (sa+k)++[x]:=by
   rw [show sa+(k+1)=sa+k+1 by omega,List.take_succ_eq_append_getElem (by rw [List.length_set];exact lt),List.getElem_set_self,List.take_set_of_le (Nat.le_refl _)]
  have e2:(arr.toList.set (sa+k) x).drop (sa+(k+1)+l.length)=arr.toList.drop (sa+k+(l.length+1)):=by
   rw [List.drop_set_of_lt (by omega)]
   congr 1
   omega
  rw [e1,e2]
  simp
theorem putM_list {sa:Nat} {m:Array Keyed} {st:SortSt} (h:sa+m.size<=(arrOf st).size):(arrOf (putM sa m st)).toList=(arrOf st).toList.take sa++m.toList++(arrOf st).toList.drop (sa+m.size):=by
 have:=put_list sa m.toList 0 (arrOf st) (by rw [Nat.add_zero,Array.length_toList];exact h)
 rw [Nat.add_zero,Array.length_toList] at this
 exact this
structure Mg2 (κ:PyProof.Rows.KeyKind) (sa n:Nat) (xs ys:Array Keyed):Prop where
 lo:ys.toList.take sa=xs.toList.take sa
 hi:ys.toList.drop (sa+n)=xs.toList.drop (sa+n)
 pm:((ys.toList.drop sa).take n).Perm ((xs.toList.drop sa).take n)
 up:((ys.toList.drop sa).take n).Pairwise (kl κ)
theorem set_ok {M:Model} {A:Around} {E:Value->Shared->Prop} {s:Shared} {Q:PUnit->SortSt->Prop} {st st':SortSt} (h:Q PUnit.unit st'):wpS M A E s (set st':SM PUnit) Q st:=by
 unfold wpS
 exact wpAny_pure ⟨rfl,h⟩
theorem merge_ok {st:SortSt} {i sa na sb nb p1 p2:Nat} {R:Bool->SortSt->Prop} (C:CmpS prog w A E s src kd κ) (q:OkS src kd st) (e1:(pendingOf st)[i]?=some (sa,na,p1)) (e2:(pendingOf st)[i+1]?=some (sb,nb,p2)) (esb:sb=sa+na) (a1:1<=na) (b1:1<=nb) (hn:sb+nb<=src.size)
  (ra:Ris κ (arrOf st) sa na) (rb:Ris κ (arrOf st) sb nb)
  (h:∀ t,OkS src kd t->pendingOf t=((pendingOf st).setIfInBounds i (sa,na+nb,p1)).eraseIdxIfInBounds (i+1)->Mg2 κ sa (na+nb) (arrOf st) (arrOf t)->R true t):wpS (model prog w) A E s (mergeAt' i) R st:=by
 subst esb
 have len:(arrOf st).size=src.size:=q.len
 generalize hX:arrOf st=X at *
 have lX:X.toList.length=X.size:=Array.length_toList
 have pa:=ris_list ra (by omega)
 have pb:=ris_list rb (by omega)
 have cut:(X.toList.drop sa).take (na+nb)=(X.toList.drop sa).take na++(X.toList.drop (sa+na)).take nb:=by
  rw [List.take_add,List.drop_drop]
 have lpa:((X.toList.drop sa).take na).length=na:=by rw [List.length_take,List.length_drop];omega
 have lpb:((X.toList.drop (sa+na)).take nb).length=nb:=by rw [List.length_take,List.length_drop];omega
 rw [merge_eq]
 unfold mgSkel
 refine wpS_bind (wpS_get ?_)
 rw [e1,e2]
 dsimp only
 refine wpS_bind (set_ok ?_)
 generalize hst:setPending st (((pendingOf st).setIfInBounds i (sa,na+nb,p1)).eraseIdxIfInBounds (i+1))=t0
 have q0:OkS src kd t0:=by rw [<- hst];exact ⟨by show (arrOf st).Perm src;exact q.pm,q.kn,q.fl⟩
 have ar0:arrOf t0=X:=by rw [<- hst];exact hX
 have pn0:pendingOf t0=((pendingOf st).setIfInBounds i (sa,na+nb,p1)).eraseIdxIfInBounds (i+1):=by rw [<- hst]
 rw [hX]
 have sub0:Sub X t0:=fun x hx=>by rw [ar0];exact hx
 have hsb:sa+na < X.size:=by omega
 refine wpS_bind (elem_ok hsb ?_)
 have upX:∀ {m i j:Nat} (base:Nat),Ris κ X base m->i<=j->j < m->κ.kle (KK κ X (base+i)) (KK κ X (base+j)):=fun base h ij jm=>h _ _ ij jm
 have monoA:∀ i j,i<=j->j < na->bey κ false X[sa+na] X sa j=true->bey κ false X[sa+na] X sa i=true:=fun i j ij jn e=>by
  have k:=ra i j ij jn
  unfold bey at e ⊢
  rw [if_neg Bool.false_ne_true] at e ⊢
  have e':κ.blt (kof κ X[sa+na]) (KK κ X (sa+j))=false:=by simpa using e
  have:κ.blt (kof κ X[sa+na]) (KK κ X (sa+i))=false:=KeyOrd.kle_trans k e'
  rw [this]
  rfl
 refine wpS_bind (gal_ok C q0 (sub0 _ (Array.getElem_mem hsb)) sub0 (by omega) (by omega) monoA fun k sp=>?_)
 have lek:=sp.le
 obtain ⟨lo1,hi1⟩:=leapR sp (by omega)
 dsimp only
 by_cases c1:na - k=0
 ·rw [if_pos (by simpa using c1)]
  refine wpS_pure (h t0 q0 pn0 ?_)
  rw [ar0]
  refine ⟨rfl,rfl,List.Perm.refl _,?_⟩
  rw [cut]
  refine List.pairwise_append.mpr ⟨pa,pb,fun x hx y hy=>?_⟩
  obtain ⟨t,tk,hh,rfl⟩:=mem_td hx
  obtain ⟨u,uk,hh2,rfl⟩:=mem_td hy
  rw [lX] at hh hh2
  have k1:=lo1 t hh (by omega)
  have k2:=rb 0 u (by omega) uk
  rw [Nat.add_zero,KK_at hsb,KK_at hh2] at k2
  exact kl_trans (by simpa using k1) (by simpa [kl] using k2)
 rw [if_neg (by simpa using c1)]
 have hla:sa+k+(na - k) - 1 < X.size:=by omega
 refine wpS_bind (elem_ok hla ?_)
 have monoB:∀ i j,i<=j->j < nb->bey κ true X[sa+k+(na - k) - 1] X (sa+na) j=true->bey κ true X[sa+k+(na - k) - 1] X (sa+na) i=true:=fun i j ij jn e=>by
  have k:=rb i j ij jn
  unfold bey at e ⊢
  rw [if_pos rfl] at e ⊢
  exact KeyOrd.klt_of_kle_of_klt k e
 refine wpS_bind (gal_ok C q0 (sub0 _ (Array.getElem_mem hla)) sub0 (by omega) (by omega) monoB fun n2 sp2=>?_)
 have len2:=sp2.le
 obtain ⟨lo2,lo2',hi2⟩:=leapL sp2 (by omega)
 have ela:sa+k+(na - k) - 1=sa+(na - 1):=by omega
 simp only [ela] at lo2 lo2' hi2
 dsimp only
 by_cases c2:n2=0
 ·rw [if_pos (by simpa using c2)]
  refine wpS_pure (h t0 q0 pn0 ?_)
  rw [ar0]
  refine ⟨rfl,rfl,List.Perm.refl _,?_⟩
  rw [cut]
  refine List.pairwise_append.mpr ⟨pa,pb,fun x hx y hy=>?_⟩
  obtain ⟨t,tk,hh,rfl⟩:=mem_td hx
  obtain ⟨u,uk,hh2,rfl⟩:=mem_td hy
  rw [lX] at hh hh2
  have k1:=ra t (na - 1) (by omega) (by omega)
  rw [KK_at hh,KK_at (show sa+(na - 1) < X.size by omega)] at k1
  have k2:=hi2 u hh2 (by omega) uk
  exact kl_trans (y:=X[sa+(na - 1)]) (by simpa [kl] using k1) (by simpa using k2)
 rw [if_neg (by simpa using c2)]
 generalize ha:X.extract (sa+k) (sa+na)=a
 generalize hb:X.extract (sa+na) (sa+na+n2)=b
 have sza:a.size=na - k:=by rw [<- ha,Array.size_extract];omega
 have szb:b.size=n2:=by rw [<- hb,Array.size_extract];omega
 have la':a.toList=(X.toList.drop (sa+k)).take (na - k):=by rw [<- ha,Array.toList_extract,List.extract_eq_drop_take];congr 1;omega
 have lb':b.toList=(X.toList.drop (sa+na)).take n2:=by rw [<- hb,Array.toList_extract,List.extract_eq_drop_take];congr 1;omega
 have ata:∀ (t:Nat) (ht:t < a.size),a[t]=X[sa+k+t]'(by omega):=fun t ht=>by subst ha;rw [Array.getElem_extract]
 have atb:∀ (t:Nat) (ht:t < b.size),b[t]=X[sa+na+t]'(by omega):=fun t ht=>by subst hb;rw [Array.getElem_extract]
 have suba:Sub a t0:=fun x hx=>by
  obtain ⟨t,ht,rfl⟩:=Array.getElem_of_mem hx
  rw [ata t ht]
  exact sub0 _ (Array.getElem_mem _)
 have subb:Sub b t0:=fun x hx=>by
  obtain ⟨t,ht,rfl⟩:=Array.getElem_of_mem hx
  rw [atb t ht]
  exact sub0 _ (Array.getElem_mem _)
 have ea:(X.toList.drop sa).take na=(X.toList.drop sa).take k++a.toList:=by
  rw [la']
  conv=>lhs;rw [show na=k+(na - k) by omega]
  rw [List.take_add,List.drop_drop]
 have eb:(X.toList.drop (sa+na)).take nb=b.toList++(X.toList.drop (sa+na+n2)).take (nb - n2):=by
  rw [lb']
  conv=>lhs;rw [show nb=n2+(nb - n2) by omega]
  rw [List.take_add,List.drop_drop]
 have sa':a.toList.Pairwise (kl κ):=by rw [ea] at pa;exact (List.pairwise_append.mp pa).2.1
 have sb':b.toList.Pairwise (kl κ):=by rw [eb] at pb;exact (List.pairwise_append.mp pb).1
 have first:∀ y∈a,kl κ (b[0]'(by omega)) y:=fun y hy=>by
  obtain ⟨t,ht,rfl⟩:=Array.getElem_of_mem hy
  rw [ata t ht,atb 0 (by omega)]
  have:=kl_of_lt (hi1 (k+t) (by omega) (by omega) (by omega))
  simpa [Nat.add_assoc] using this
 have last:∀ x∈b,kl κ x (a[a.size - 1]'(by omega)):=fun x hx=>by
  obtain ⟨t,ht,rfl⟩:=Array.getElem_of_mem hx
  rw [atb t ht,ata (a.size - 1) (by omega)]
  have:=lo2 t (by omega) (by omega)
  have e:sa+k+(a.size - 1)=sa+(na - 1):=by omega
  simp only [e]
  exact this
 have fin:∀ (r:Array Keyed) (t:SortSt),Kp t0 t->Mgd κ a.toList b.toList r.toList->OkS src kd (putM (sa+k) r t)/\pendingOf (putM (sa+k) r t)=pendingOf t0/\Mg2 κ sa (na+nb) X (arrOf (putM (sa+k) r t)):=fun r t kp md=>by
  have szr:r.size=na - k+n2:=by
   have:=md.pm.length_eq
   rw [List.length_append,Array.length_toList,Array.length_toList,Array.length_toList] at this
   omega
  have art:arrOf t=X:=kp.ar.trans ar0
  have pl:=putM_list (sa:=sa+k) (m:=r) (st:=t) (by rw [art];omega)
  rw [art] at pl
  have z0:X.toList.take (sa+k)=X.toList.take sa++(X.toList.drop sa).take k:=List.take_add
  have z1:X.toList.drop (sa+k+r.size)=(X.toList.drop (sa+na+n2)).take (nb - n2)++X.toList.drop (sa+(na+nb)):=by
   rw [show sa+k+r.size=sa+na+n2 by omega]
   conv=>lhs;rw [<- List.take_append_drop (nb - n2) (X.toList.drop (sa+na+n2)),List.drop_drop]
   congr 2
   omega
  generalize hY:(arrOf (putM (sa+k) r t)).toList=Y at pl
  rw [z0,z1] at pl
  have pl':Y=X.toList.take sa++((X.toList.drop sa).take k++r.toList++(X.toList.drop (sa+na+n2)).take (nb - n2))++X.toList.drop (sa+(na+nb)):=by rw [pl];simp
  have l0:(X.toList.take sa).length=sa:=by rw [List.length_take];omega
  have l1:((X.toList.drop sa).take k++r.toList++(X.toList.drop (sa+na+n2)).take (nb - n2)).length=na+nb:=by
   simp only [List.length_append,List.length_take,List.length_drop,Array.length_toList]
   omega
  have mid:(Y.drop sa).take (na+nb)=(X.toList.drop sa).take k++r.toList++(X.toList.drop (sa+na+n2)).take (nb - n2):=by
   rw [pl',List.append_assoc,List.drop_left' l0,List.take_left' l1]
  have whole:X.toList=X.toList.take sa++(X.toList.drop sa).take (na+nb)++X.toList.drop (sa+(na+nb)):=by
   rw [List.append_assoc,<- List.drop_drop,List.take_append_drop,List.take_append_drop]
  have pmid:((X.toList.drop sa).take k++r.toList++(X.toList.drop (sa+na+n2)).take (nb - n2)).Perm ((X.toList.drop sa).take (na+nb)):=by
   rw [cut,ea,eb]
   have:((X.toList.drop sa).take k++r.toList++(X.toList.drop (sa+na+n2)).take (nb - n2)).Perm ((X.toList.drop sa).take k++(a.toList++b.toList)++(X.toList.drop (sa+na+n2)).take (nb - n2)):=List.Perm.append_right _ (List.Perm.append_left _ md.pm)
   refine this.trans (List.Perm.of_eq ?_)
   simp
  have up:((X.toList.drop sa).take k++r.toList++(X.toList.drop (sa+na+n2)).take (nb - n2)).Pairwise (kl κ):=by
   have pk:((X.toList.drop sa).take k).Pairwise (kl κ):=by rw [ea] at pa;exact (List.pairwise_append.mp pa).1
   have pr:((X.toList.drop (sa+na+n2)).take (nb - n2)).Pairwise (kl κ):=by rw [eb] at pb;exact (List.pairwise_append.mp pb).2.1
   have ka:∀ x∈(X.toList.drop sa).take k,∀ y∈a.toList++b.toList,kl κ x y:=fun x hx y hy=>by
    rcases List.mem_append.mp hy with hy | hy
    ·rw [ea] at pa
     exact (List.pairwise_append.mp pa).2.2 x hx y hy
    ·obtain ⟨t,tk,hh,rfl⟩:=mem_td hx
     rw [lX] at hh
     have k1:=lo1 t hh tk
     obtain ⟨u,hu,rfl⟩:=Array.getElem_of_mem (show y∈b by simpa using hy)
     rw [atb u hu]
     have k2:=rb 0 u (by omega) (by omega)
     rw [Nat.add_zero,KK_at hsb,KK_at (show sa+na+u < X.size by omega)] at k2
     exact kl_trans (by simpa using k1) k2
   have kb:∀ x∈a.toList++b.toList,∀ y∈(X.toList.drop (sa+na+n2)).take (nb - n2),kl κ x y:=fun x hx y hy=>by
    rcases List.mem_append.mp hx with hx | hx
    ·obtain ⟨u,hu,rfl⟩:=Array.getElem_of_mem (show x∈a by simpa using hx)
     rw [ata u hu]
     obtain ⟨t,tk,hh,rfl⟩:=mem_td hy
     rw [lX] at hh
     have k1:=ra (k+u) (na - 1) (by omega) (by omega)
     rw [KK_at (show sa+(k+u) < X.size by omega),KK_at (show sa+(na - 1) < X.size by omega)] at k1
     have k2:=hi2 (n2+t) (by omega) (by omega) (by omega)
     have:=kl_trans k1 k2
     simpa [Nat.add_assoc] using this
    ·rw [eb] at pb
     exact (List.pairwise_append.mp pb).2.2 x hx y hy
   refine List.pairwise_append.mpr ⟨List.pairwise_append.mpr ⟨pk,md.up,fun x hx y hy=>ka x hx y (md.pm.mem_iff.mp hy)⟩,pr,fun x hx y hy=>?_⟩
   rcases List.mem_append.mp hx with hx | hx
   ·have q0:=ka x hx (b[0]'(by omega)) (List.mem_append_right _ (by simp))
    exact kl_trans q0 (kb _ (List.mem_append_right _ (by simp)) y hy)
   ·exact kb x (md.pm.mem_iff.mp hx) y hy
  refine ⟨⟨?_,by show kindOf t=kd;rw [kp.kn];exact q0.kn,by show failedOf t=none;rw [kp.fl];exact q0.fl⟩,by show pendingOf t=pendingOf t0;exact kp.pn,?_⟩
  ·have pX:X.Perm src:=by rw [<- ar0];exact q0.pm
   refine Array.Perm.trans ?_ pX
   rw [Array.perm_iff_toList_perm,hY,pl']
   conv=>rhs;rw [whole]
   exact List.Perm.append_right _ (List.Perm.append_left _ pmid)
  ·refine ⟨?_,?_,?_,?_⟩
   ·rw [hY,pl',List.append_assoc,List.take_left' l0]
   ·rw [hY,pl',List.drop_left' (by rw [List.length_append,l0,l1])]
   ·rw [hY,mid];exact pmid
   ·rw [hY,mid];exact up
 refine ite_wp (fun _=>?_) (fun _=>?_)
 ·refine wpS_bind (lo_ok C q0 suba subb sa' sb' (by omega) (by omega) first last fun r t kp md=>?_)
  obtain ⟨f1,f2,f3⟩:=fin r t kp md
  refine wpS_bind (wpS_modify (wpS_bind (wpS_get (wpS_pure ?_))))
  rw [f1.fl]
  exact h _ f1 (f2.trans pn0) f3
 ·refine wpS_bind (hi_ok C q0 suba subb sa' sb' (by omega) (by omega) first last fun r t kp md=>?_)
  obtain ⟨f1,f2,f3⟩:=fin r t kp md
  refine wpS_bind (wpS_modify (wpS_bind (wpS_get (wpS_pure ?_))))
  rw [f1.fl]
  exact h _ f1 (f2.trans pn0) f3
end
def upBody (lo:Nat):Nat->(Option (Option Nat) × Nat)->SM (ForInStep (Option (Option Nat) × Nat)):=fun _ s=>do
 let x <- ltAt' (lo+s.2) (lo+s.2 - 1)
 match x with
 | some smaller=>if smaller=true then pure (ForInStep.done (none,s.2)) else pure (ForInStep.yield (none,s.2+1))
 | _=>pure (ForInStep.done (some none,s.2))
def downBody (lo:Nat):Nat->(Option (Option Nat) × Nat × Nat)->SM (ForInStep (Option (Option Nat) × Nat × Nat)):=fun _ s=>do
 let x <- ltAt' (lo+s.2.1) (lo+s.2.1 - 1)
 match x with
 | some smaller =>
  if smaller=true then
   if s.2.2 > 0 then do
    let _ <- reverseSlice' (lo+s.2.1 - (s.2.2+1)) (lo+s.2.1)
    pure (ForInStep.yield (none,s.2.1+1,0))
   else pure (ForInStep.yield (none,s.2.1+1,0))
  else do
   let y <- ltAt' (lo+s.2.1 - 1) (lo+s.2.1)
   match y with
   | some larger=>if larger=true then pure (ForInStep.done (none,s.2.1,s.2.2)) else pure (ForInStep.yield (none,s.2.1+1,s.2.2+1))
   | _=>pure (ForInStep.done (some none,s.2.1,s.2.2))
 | _=>pure (ForInStep.done (some none,s.2.1,s.2.2))
def runTail (lo n nrem:Nat):SM (Option Nat):=do
 let _ <- reverseSlice' lo (lo+n)
 let s <- forIn [n:nrem] ((none:Option (Option Nat)),n) (upBody lo)
 match s.1 with
 | some r=>pure r
 | none=>pure (some s.2)
def downPart (lo n nrem:Nat):SM (Option Nat):=do
 liftM (rule "list.sort.descending-run")
 let s <- forIn [n+1:nrem] ((none:Option (Option Nat)),n+1,0) (downBody lo)
 match s.1 with
 | some r=>pure r
 | none =>
  if s.2.2 > 0 then do
   let _ <- reverseSlice' (lo+s.2.1 - (s.2.2+1)) (lo+s.2.1)
   runTail lo s.2.1 nrem
  else runTail lo s.2.1 nrem
theorem count_eq (lo nrem:Nat):countRun' lo nrem=(do
  let s <- forIn [1:nrem] ((none:Option (Option Nat)),1) (upBody lo)
  match s.1 with
  | some r=>pure r
  | none =>
   if (s.2 == nrem)=true then pure (some s.2)
   else
    if s.2 > 1 then do
     let x <- ltAt' lo (lo+s.2 - 1)
     match x with
     | some rose=>if rose=true then pure (some s.2) else do
       let _ <- reverseSlice' lo (lo+s.2)
       downPart lo s.2 nrem
     | _=>pure none
    else downPart lo s.2 nrem):=by kernel_rfl
section
variable {prog:Program} {w:World} {A:Around} {E:Value->Shared->Prop} {s:Shared} {src:Array Keyed} {kd:SortKind} {κ:PyProof.Rows.KeyKind}
structure Fro (κ:PyProof.Rows.KeyKind) (lo:Nat) (st t:SortSt):Prop where
 pn:pendingOf t=pendingOf st
 at_:∀ i,i < lo->KK κ (arrOf t) i=KK κ (arrOf st) i
theorem Fro.refl {lo:Nat} {st:SortSt}:Fro κ lo st st:=⟨rfl,fun _ _=>rfl⟩
theorem Fro.trans {lo:Nat} {r t u:SortSt} (a:Fro κ lo r t) (b:Fro κ lo t u):Fro κ lo r u:=⟨b.pn.trans a.pn,fun i h=>(b.at_ i h).trans (a.at_ i h)⟩
theorem OkS.put {st:SortSt} {xs:Array Keyed} (q:OkS src kd st) (p:xs.Perm (arrOf st)):OkS src kd (setArr st xs):=⟨p.trans q.pm,q.kn,q.fl⟩
theorem Fro.mirror {lo i j:Nat} {st:SortSt} (h:lo<=i) (hj:j<=(arrOf st).size):Fro κ lo st (setArr st (PyProof.Rows.mirror (arrOf st) i j ((j - i) / 2))):=⟨rfl,fun k hk=>by
 show KK κ (PyProof.Rows.mirror (arrOf st) i j ((j - i) / 2)) k=_
 rw [KK_mirror hj,if_neg (by omega)]⟩
theorem ris_more {xs:Array Keyed} {lo n:Nat} (up:Ris κ xs lo n) (last:0 < n->κ.kle (KK κ xs (lo+n - 1)) (KK κ xs (lo+n))):Ris κ xs lo (n+1):=by
 intro i j ij jn
 rcases Nat.lt_or_ge j n with q | q
 ·exact up i j ij q
 ·obtain rfl:j=n:=by omega
  rcases Nat.lt_or_ge i j with r | r
  ·refine KeyOrd.kle_trans (up i (j - 1) (by omega) (by omega)) ?_
   rw [show lo+(j - 1)=lo+j - 1 by omega]
   exact last (by omega)
  ·obtain rfl:i=j:=by omega
   exact KeyOrd.kle_refl _
def Fal (κ:PyProof.Rows.KeyKind) (xs:Array Keyed) (lo n:Nat):Prop:=∀ i j,i<=j->j < n->κ.kle (KK κ xs (lo+j)) (KK κ xs (lo+i))
theorem fal_more {xs:Array Keyed} {lo n:Nat} (dn:Fal κ xs lo n) (last:0 < n->κ.kle (KK κ xs (lo+n)) (KK κ xs (lo+n - 1))):Fal κ xs lo (n+1):=by
 intro i j ij jn
 rcases Nat.lt_or_ge j n with q | q
 ·exact dn i j ij q
 ·obtain rfl:j=n:=by omega
  rcases Nat.lt_or_ge i j with r | r
  ·refine KeyOrd.kle_trans (last (by omega)) ?_
   rw [show lo+j - 1=lo+(j - 1) by omega]
   exact dn i (j - 1) (by omega) (by omega)
  ·obtain rfl:i=j:=by omega
   exact KeyOrd.kle_refl _
theorem ris_one {xs:Array Keyed} {lo:Nat}:Ris κ xs lo 1:=fun i j ij j1=>by
 obtain rfl:i=j:=by omega
 exact KeyOrd.kle_refl _
theorem upL {st:SortSt} {lo b n:Nat} {R:(Option (Option Nat) × Nat)->SortSt->Prop} (C:CmpS prog w A E s src kd κ) (q:OkS src kd st) (b1:1<=b) (bn:b<=n) (nn:lo+n<=src.size) (up:Ris κ (arrOf st) lo b)
  (k:∀ m,b<=m->m<=n->Ris κ (arrOf st) lo m->(m < n->κ.klt (KK κ (arrOf st) (lo+m)) (KK κ (arrOf st) (lo+m - 1)))->R (none,m) st):wpS (model prog w) A E s (forIn [b:n] (none,b) (upBody lo)) R st:=by
 refine wpS_forRange (I:=fun m c t=>t=st/\c=(none,m)/\Ris κ (arrOf st) lo m) (fun m c t bm mn h=>?_) (fun c t h=>?_) ⟨rfl,rfl,up⟩
 ·obtain ⟨e1,e2,um⟩:=h
  subst e1 e2
  unfold upBody
  refine wpS_bind (C _ _ _ _ q (by dsimp only;omega) (by dsimp only;omega) ?_)
  dsimp only
  by_cases lt:κ.klt (KK κ (arrOf t) (lo+m)) (KK κ (arrOf t) (lo+m - 1))
  ·have lt':κ.blt (ky κ t (lo+m)) (ky κ t (lo+m - 1))=true:=lt
   rw [lt']
   exact wpS_pure (k m bm (by omega) um fun _=>lt)
  ·have lt':κ.blt (ky κ t (lo+m)) (ky κ t (lo+m - 1))=false:=KeyOrd.kle_of_not_klt lt
   rw [lt']
   exact wpS_pure ⟨rfl,rfl,ris_more um fun _=>lt'⟩
 ·obtain ⟨e1,e2,um⟩:=h
  subst e1 e2
  rw [Nat.max_eq_right bn] at um ⊢
  exact k n bn (Nat.le_refl _) um fun z=>absurd z (Nat.lt_irrefl _)
theorem tailL {st:SortSt} {lo m n:Nat} {R:Option Nat->SortSt->Prop} (C:CmpS prog w A E s src kd κ) (q:OkS src kd st) (m1:1<=m) (mn:m<=n) (nn:lo+n<=src.size) (dn:Fal κ (arrOf st) lo m)
  (k:∀ l t,OkS src kd t->Fro κ lo st t->1<=l->l<=n->Ris κ (arrOf t) lo l->R (some l) t):wpS (model prog w) A E s (runTail lo m n) R st:=by
 unfold runTail
 have ml:lo+m<=(arrOf st).size:=by rw [q.len];omega
 refine wpS_bind (wpS_reverse ?_)
 have q2:=q.put (mirror_perm (arrOf st) lo (lo+m) ((lo+m - lo) / 2))
 refine wpS_bind (upL C q2 m1 mn nn (fun i j ij jm=>?_) fun l ml' ln up _=>wpS_pure (k l _ q2 (Fro.mirror (Nat.le_refl _) ml) (by omega) ln up))
 have ei:KK κ (mirror (arrOf st) lo (lo+m) ((lo+m - lo) / 2)) (lo+i)=KK κ (arrOf st) (lo+(lo+m) - 1 - (lo+i)):=by rw [KK_mirror ml,if_pos ⟨by omega,by omega⟩]
 have ej:KK κ (mirror (arrOf st) lo (lo+m) ((lo+m - lo) / 2)) (lo+j)=KK κ (arrOf st) (lo+(lo+m) - 1 - (lo+j)):=by rw [KK_mirror ml,if_pos ⟨by omega,by omega⟩]
 show κ.kle (KK κ (mirror (arrOf st) lo (lo+m) ((lo+m - lo) / 2)) (lo+i)) (KK κ (mirror (arrOf st) lo (lo+m) ((lo+m - lo) / 2)) (lo+j))
 rw [ei,ej,show lo+(lo+m) - 1 - (lo+i)=lo+(m - 1 - i) by omega,show lo+(lo+m) - 1 - (lo+j)=lo+(m - 1 - j) by omega]
 exact dn _ _ (by omega) (by omega)
def FlatL (κ:PyProof.Rows.KeyKind) (xs:Array Keyed) (lo m e:Nat):Prop:=e < m/\∀ i,lo+m - (e+1)<=i->i < lo+m->KK κ xs i=KK κ xs (lo+m - 1)
theorem flatL_0 {xs:Array Keyed} {lo m:Nat} (h:0 < m):FlatL κ xs lo m 0:=⟨h,fun i a b=>by
 have e:i=lo+m - 1:=by omega
 rw [e]⟩
theorem downL {st:SortSt} {lo b n:Nat} {R:(Option (Option Nat) × Nat × Nat)->SortSt->Prop} (C:CmpS prog w A E s src kd κ) (q:OkS src kd st) (b1:1<=b) (bn:b<=n) (nn:lo+n<=src.size) (dn:Fal κ (arrOf st) lo b)
  (k:∀ m e t,OkS src kd t->Fro κ lo st t->b<=m->m<=n->Fal κ (arrOf t) lo m->FlatL κ (arrOf t) lo m e->R (none,m,e) t):wpS (model prog w) A E s (forIn [b:n] (none,b,0) (downBody lo)) R st:=by
 refine wpS_forRange (I:=fun m c t=>∃ e,c=(none,m,e)/\OkS src kd t/\Fro κ lo st t/\Fal κ (arrOf t) lo m/\FlatL κ (arrOf t) lo m e) (fun m c t bm mn h=>?_) (fun c t h=>?_) ⟨0,rfl,q,Fro.refl,dn,flatL_0 (by omega)⟩
 ·obtain ⟨e,rfl,qt,fr,dt,fl⟩:=h
  have ml:lo+m<=(arrOf t).size:=by rw [qt.len];omega
  unfold downBody
  refine wpS_bind (C _ _ _ _ qt (by dsimp only;omega) (by dsimp only;omega) ?_)
  dsimp only
  by_cases lt:κ.klt (KK κ (arrOf t) (lo+m)) (KK κ (arrOf t) (lo+m - 1))
  ·have lt':κ.blt (ky κ t (lo+m)) (ky κ t (lo+m - 1))=true:=lt
   rw [lt']
   try dsimp only
   rw [if_pos rfl]
   by_cases e0:e > 0
   ·rw [if_pos e0]
    have same:∀ i,KK κ (mirror (arrOf t) (lo+m - (e+1)) (lo+m) ((lo+m - (lo+m - (e+1))) / 2)) i=KK κ (arrOf t) i:=KK_mirror_equal ml fl.2
    refine wpS_bind (wpS_reverse (wpS_pure ⟨0,rfl,qt.put (mirror_perm _ _ _ _),fr.trans (Fro.mirror (by have:=fl.1;omega) ml),?_,flatL_0 (by omega)⟩))
    refine fal_more (fun i j ij jm=>?_) fun _=>?_
    ·show κ.kle (KK κ (mirror (arrOf t) _ _ _) (lo+j)) (KK κ (mirror (arrOf t) _ _ _) (lo+i))
     rw [same,same];exact dt i j ij jm
    ·show κ.kle (KK κ (mirror (arrOf t) _ _ _) (lo+m)) (KK κ (mirror (arrOf t) _ _ _) (lo+m - 1))
     rw [same,same];exact KeyOrd.kle_of_klt lt
   ·rw [if_neg e0]
    exact wpS_pure ⟨0,rfl,qt,fr,fal_more dt fun _=>KeyOrd.kle_of_klt lt,flatL_0 (by omega)⟩
  ·have lt':κ.blt (ky κ t (lo+m)) (ky κ t (lo+m - 1))=false:=KeyOrd.kle_of_not_klt lt
   rw [lt']
   try dsimp only
   rw [if_neg Bool.false_ne_true]
   refine wpS_bind (C _ _ _ _ qt (by omega) (by omega) ?_)
   by_cases gt:κ.klt (KK κ (arrOf t) (lo+m - 1)) (KK κ (arrOf t) (lo+m))
   ·have gt':κ.blt (ky κ t (lo+m - 1)) (ky κ t (lo+m))=true:=gt
    rw [gt']
    exact wpS_pure (k m e t qt fr bm (by omega) dt fl)
   ·have gt':κ.blt (ky κ t (lo+m - 1)) (ky κ t (lo+m))=false:=KeyOrd.kle_of_not_klt gt
    rw [gt']
    have alike:KK κ (arrOf t) (lo+m)=KK κ (arrOf t) (lo+m - 1):=KeyOrd.kle_antisymm gt' lt'
    refine wpS_pure ⟨e+1,rfl,qt,fr,fal_more dt fun _=>gt',by have:=fl.1;omega,fun i a b=>?_⟩
    rw [show lo+(m+1) - 1=lo+m by omega]
    rcases Nat.lt_or_ge i (lo+m) with r | r
    ·exact (fl.2 i (by omega) r).trans alike.symm
    ·obtain rfl:i=lo+m:=by omega
     rfl
 ·obtain ⟨e,rfl,qt,fr,dt,fl⟩:=h
  rw [Nat.max_eq_right bn] at dt fl ⊢
  exact k n e t qt fr bn (Nat.le_refl _) dt fl
theorem partL {st:SortSt} {lo m n:Nat} {R:Option Nat->SortSt->Prop} (C:CmpS prog w A E s src kd κ) (q:OkS src kd st) (mn:m+1<=n) (nn:lo+n<=src.size) (dn:Fal κ (arrOf st) lo (m+1))
  (k:∀ l t,OkS src kd t->Fro κ lo st t->1<=l->l<=n->Ris κ (arrOf t) lo l->R (some l) t):wpS (model prog w) A E s (downPart lo m n) R st:=by
 unfold downPart
 refine wpS_bind (wpS_lift (wpAny_rule ⟨rfl,?_⟩))
 refine wpS_bind (downL C q (by omega) mn nn dn fun l e t qt fr bl ln dt fl=>?_)
 dsimp only
 by_cases e0:e > 0
 ·rw [if_pos e0]
  have ll:lo+l<=(arrOf t).size:=by rw [qt.len];omega
  have same:∀ i,KK κ (mirror (arrOf t) (lo+l - (e+1)) (lo+l) ((lo+l - (lo+l - (e+1))) / 2)) i=KK κ (arrOf t) i:=KK_mirror_equal ll fl.2
  refine wpS_bind (wpS_reverse (tailL C (qt.put (mirror_perm _ _ _ _)) (by omega) ln nn (fun i j ij jl=>?_) fun l2 t2 q2 f2=>k l2 t2 q2 ((fr.trans (Fro.mirror (by have:=fl.1;omega) ll)).trans f2)))
  show κ.kle (KK κ (mirror (arrOf t) _ _ _) (lo+j)) (KK κ (mirror (arrOf t) _ _ _) (lo+i))
  rw [same,same];exact dt i j ij jl
 ·rw [if_neg e0]
  exact tailL C qt (by omega) ln nn dt fun l2 t2 q2 f2=>k l2 t2 q2 (fr.trans f2)
theorem runL {st:SortSt} {lo n:Nat} {R:Option Nat->SortSt->Prop} (C:CmpS prog w A E s src kd κ) (q:OkS src kd st) (n1:1<=n) (nn:lo+n<=src.size)
  (k:∀ l t,OkS src kd t->Fro κ lo st t->1<=l->l<=n->Ris κ (arrOf t) lo l->R (some l) t):wpS (model prog w) A E s (countRun' lo n) R st:=by
 rw [count_eq]
 refine wpS_bind (upL C q (Nat.le_refl 1) n1 nn ris_one fun m m1 mn up low=>?_)
 dsimp only
 by_cases whole:m=n
 ·rw [if_pos (by simpa using whole)]
  exact wpS_pure (k m st q Fro.refl m1 mn up)
 rw [if_neg (by simpa using whole)]
 have less:=low (by omega)
 by_cases long:m > 1
 ·rw [if_pos long]
  refine wpS_bind (C _ _ _ _ q (by omega) (by omega) ?_)
  by_cases rose:κ.klt (KK κ (arrOf st) lo) (KK κ (arrOf st) (lo+m - 1))
  ·have rose':κ.blt (ky κ st lo) (ky κ st (lo+m - 1))=true:=rose
   rw [rose']
   exact wpS_pure (k m st q Fro.refl m1 mn up)
  ·have rose':κ.blt (ky κ st lo) (ky κ st (lo+m - 1))=false:=KeyOrd.kle_of_not_klt rose
   rw [rose']
   have ml:lo+m<=(arrOf st).size:=by rw [q.len];omega
   have alike:∀ i,lo<=i->i < lo+m->KK κ (arrOf st) i=KK κ (arrOf st) (lo+m - 1):=fun i h1 im=>by
    have u1:=up (i - lo) (m - 1) (by omega) (by omega)
    have u2:=up 0 (i - lo) (by omega) (by omega)
    rw [show lo+(i - lo)=i by omega] at u1 u2
    rw [show lo+(m - 1)=lo+m - 1 by omega] at u1
    rw [Nat.add_zero] at u2
    exact KeyOrd.kle_antisymm u1 (KeyOrd.kle_trans rose' u2)
   have same:∀ i,KK κ (mirror (arrOf st) lo (lo+m) ((lo+m - lo) / 2)) i=KK κ (arrOf st) i:=KK_mirror_equal ml alike
   dsimp only
   rw [if_neg Bool.false_ne_true]
   refine wpS_bind (wpS_reverse (partL C (q.put (mirror_perm _ _ _ _)) (by omega) nn (fal_more (fun i j ij jm=>?_) fun _=>?_) fun l2 t2 q2 f2=>k l2 t2 q2 ((Fro.mirror (Nat.le_refl _) ml).trans f2)))
   ·show κ.kle (KK κ (mirror (arrOf st) _ _ _) (lo+j)) (KK κ (mirror (arrOf st) _ _ _) (lo+i))
    rw [same,same,alike (lo+i) (by omega) (by omega),alike (lo+j) (by omega) (by omega)]
    exact KeyOrd.kle_refl _
   ·show κ.kle (KK κ (mirror (arrOf st) _ _ _) (lo+m)) (KK κ (mirror (arrOf st) _ _ _) (lo+m - 1))
    rw [same,same];exact KeyOrd.kle_of_klt less
 ·rw [if_neg long]
  obtain rfl:m=1:=by omega
  refine partL C q (by omega) nn (fal_more (fun i j ij j1=>?_) fun _=>KeyOrd.kle_of_klt less) k
  obtain rfl:i=j:=by omega
  exact KeyOrd.kle_refl _
theorem seekL {st:SortSt} {lo k:Nat} {R:Option Bool × Nat × Nat->SortSt->Prop} (C:CmpS prog w A E s src kd κ) (q:OkS src kd st) (kn:lo+k < src.size) (up:Ris κ (arrOf st) lo k)
  (f:Nat->Option Bool × Nat × Nat->StateT SortSt Sem (ForInStep (Option Bool × Nat × Nat)))
  (hf:∀ x l r,f x (none,l,r)=if l ≥ r then pure (.done (none,l,r)) else ltAt' (lo+k) (lo+(l+r) / 2) >>= fun b=>match b with
   | some true=>pure (.yield (none,l,(l+r) / 2))
   | some false=>pure (.yield (none,(l+r) / 2+1,r))
   | none=>pure (.done (some false,l,r)))
  (h:∀ l r,l<=k->(∀ i,i < l->κ.kle (KK κ (arrOf st) (lo+i)) (KK κ (arrOf st) (lo+k)))->(∀ i,l<=i->i < k->κ.klt (KK κ (arrOf st) (lo+k)) (KK κ (arrOf st) (lo+i)))->R (none,l,r) st) :
  wpS (model prog w) A E s (forIn [0:k] (none,0,k) f) R st:=by
 refine wpS_forRange (I:=fun x c t=>t=st/\∃ l r,c=(none,l,r)/\l<=r/\r<=k/\r<=l+(k - x)/\(∀ i,i < l->κ.kle (KK κ (arrOf st) (lo+i)) (KK κ (arrOf st) (lo+k)))/\∀ i,r<=i->i < k->κ.klt (KK κ (arrOf st) (lo+k)) (KK κ (arrOf st) (lo+i)))
  (fun x c t _ xk z=>?_) (fun c t z=>?_) ⟨rfl,0,k,rfl,Nat.zero_le _,Nat.le_refl _,by omega,fun i z=>absurd z (Nat.not_lt_zero _),fun i a b=>by omega⟩
 ·obtain ⟨e,l,r,rfl,lr,rk,gap,lo',hi⟩:=z
  subst e
  rw [hf]
  by_cases met:l ≥ r
  ·rw [if_pos met]
   obtain rfl:l=r:=by omega
   exact wpS_pure (h l l rk lo' hi)
  ·rw [if_neg met]
   refine wpS_bind (C _ _ _ _ q (by omega) (by omega) ?_)
   by_cases lt:κ.klt (KK κ (arrOf t) (lo+k)) (KK κ (arrOf t) (lo+(l+r) / 2))
   ·have lt':κ.blt (ky κ t (lo+k)) (ky κ t (lo+(l+r) / 2))=true:=lt
    rw [lt']
    exact wpS_pure ⟨rfl,l,(l+r) / 2,rfl,by omega,by omega,by omega,lo',fun i a b=>KeyOrd.klt_of_klt_of_kle lt (up _ _ a b)⟩
   ·have lt':κ.blt (ky κ t (lo+k)) (ky κ t (lo+(l+r) / 2))=false:=KeyOrd.kle_of_not_klt lt
    rw [lt']
    exact wpS_pure ⟨rfl,(l+r) / 2+1,r,rfl,by omega,rk,by omega,fun i a=>KeyOrd.kle_trans (up i ((l+r) / 2) (by omega) (by omega)) lt',hi⟩
 ·obtain ⟨e,l,r,rfl,lr,rk,gap,lo',hi⟩:=z
  subst e
  obtain rfl:l=r:=by omega
  exact h l l rk lo' hi
theorem movedL {xs:Array Keyed} {lo k l:Nat} (kn:lo+k < xs.size) (lk:l<=k) (up:Ris κ xs lo k) (lw:∀ i,i < l->κ.kle (KK κ xs (lo+i)) (KK κ xs (lo+k))) (hi:∀ i,l<=i->i < k->κ.klt (KK κ xs (lo+k)) (KK κ xs (lo+i))) :
  Ris κ (bubble xs (lo+k) (lo+k - (lo+l))) lo (k+1):=by
 have at_:∀ i,KK κ (bubble xs (lo+k) (lo+k - (lo+l))) (lo+i)=if i=l then KK κ xs (lo+k) else if l < i/\i<=k then KK κ xs (lo+i - 1) else KK κ xs (lo+i):=fun i=>by
  rw [KK_bubble kn (by omega)]
  by_cases c1:i=l
  ·rw [if_pos (by omega),if_pos c1]
  ·rw [if_neg (by omega),if_neg c1]
   by_cases c2:l < i/\i<=k
   ·rw [if_pos (by omega),if_pos c2]
   ·rw [if_neg (by omega),if_neg c2]
 intro i j ij jk
 rw [at_,at_]
 have sub1:∀ i,0 < i->lo+i - 1=lo+(i - 1):=fun i h=>by omega
 rcases Nat.lt_trichotomy i l with a | a | a
 ·rw [if_neg (by omega),if_neg (by omega)]
  rcases Nat.lt_trichotomy j l with b | b | b
  ·rw [if_neg (by omega),if_neg (by omega)];exact up i j ij (by omega)
  ·rw [if_pos b];exact lw i a
  ·rw [if_neg (by omega),if_pos ⟨b,by omega⟩,sub1 j (by omega)];exact up i (j - 1) (by omega) (by omega)
 ·rw [if_pos a]
  rcases Nat.lt_or_ge l j with b | b
  ·rw [if_neg (by omega),if_pos ⟨b,by omega⟩,sub1 j (by omega)];exact KeyOrd.kle_of_klt (hi _ (by omega) (by omega))
  ·rw [if_pos (by omega)];exact KeyOrd.kle_refl _
 ·rw [if_neg (by omega),if_pos ⟨a,by omega⟩,if_neg (by omega),if_pos ⟨by omega,by omega⟩,sub1 i (by omega),sub1 j (by omega)]
  exact up (i - 1) (j - 1) (by omega) (by omega)
theorem insL {st:SortSt} {lo n m:Nat} {R:Bool->SortSt->Prop} (C:CmpS prog w A E s src kd κ) (q:OkS src kd st) (nn:lo+n<=src.size) (m1:1<=m) (mn:m<=n) (up:Ris κ (arrOf st) lo m)
  (k:∀ t,OkS src kd t->Fro κ lo st t->Ris κ (arrOf t) lo n->R true t):wpS (model prog w) A E s (binarySort' lo n m) R st:=by
 rw [binarySort'_eq]
 rw [Nat.max_eq_left m1]
 refine wpS_bind (wpS_mono (wpS_forRange (I:=fun x c t=>c=(none,())/\OkS src kd t/\Fro κ lo st t/\Ris κ (arrOf t) lo (min x n)) (Q:=fun c t=>c=(none,())/\OkS src kd t/\Fro κ lo st t/\Ris κ (arrOf t) lo n)
  (fun x c t mx xn z=>?_) (fun c t z=>?_) ⟨rfl,q,Fro.refl,?_⟩) fun c t z=>?_)
 ·obtain ⟨rfl,qt,fr,ut⟩:=z
  rw [Nat.min_eq_left (by omega)] at ut
  have xs:lo+x < (arrOf t).size:=by rw [qt.len];omega
  refine wpS_bind (seekL (k:=x) C qt (by omega) ut _ (fun y l r=>?_) fun l r lx lw hi=>?_)
  ·dsimp only
   split
   ·rfl
   ·congr 1
    funext b
    match b with
    | some true=>rfl
    | some false=>rfl
    | none=>rfl
  ·show wpS _ _ _ _ (moveDown' (lo+x) (lo+l) >>= fun _=>pure (ForInStep.yield (none,()))) _ _
   rw [moveDown'_eq]
   refine wpS_bind (wpS_modify (wpS_pure ⟨rfl,qt.put (bubble_perm _ _ _),fr.trans ⟨rfl,fun i hi2=>?_⟩,?_⟩))
   ·show KK κ (bubble (arrOf t) (lo+x) (lo+x - (lo+l))) i=_
    rw [KK_bubble xs (by omega),if_neg (by omega),if_neg (by omega)]
   ·rw [Nat.min_eq_left (by omega)]
    exact movedL xs lx ut lw hi
 ·obtain ⟨rfl,qt,fr,ut⟩:=z
  refine ⟨rfl,qt,fr,?_⟩
  rw [Nat.max_eq_right mn,Nat.min_self] at ut
  exact ut
 ·rw [Nat.min_eq_left mn];exact up
 ·obtain ⟨rfl,qt,fr,ut⟩:=z
  exact wpS_pure (k t qt fr ut)
def Rns (κ:PyProof.Rows.KeyKind) (xs:Array Keyed):Nat->List (Nat × Nat × Nat)->Nat->Prop
 | lo,[],hi=>lo=hi
 | lo,u::rs,hi=>u.1=lo/\1<=u.2.1/\Ris κ xs lo u.2.1/\Rns κ xs (lo+u.2.1) rs hi
theorem Rns.len {xs:Array Keyed}:∀ {rs:List (Nat × Nat × Nat)} {lo hi:Nat},Rns κ xs lo rs hi->lo+rs.length<=hi
 | [],lo,hi,h=>by have:lo=hi:=h;simp;omega
 | u::rs,lo,hi,h=>by
  have:=Rns.len h.2.2.2
  have:=h.2.1
  rw [List.length_cons]
  omega
theorem Rns.kk {xs ys:Array Keyed}:∀ {rs:List (Nat × Nat × Nat)} {lo hi:Nat},Rns κ xs lo rs hi->(∀ i,lo<=i->i < hi->KK κ ys i=KK κ xs i)->Rns κ ys lo rs hi
 | [],lo,hi,h,_=>h
 | u::rs,lo,hi,h,k=>by
  have l:=Rns.len h.2.2.2
  refine ⟨h.1,h.2.1,fun i j ij jn=>?_,Rns.kk h.2.2.2 fun i a b=>k i (by omega) b⟩
  rw [k (lo+i) (by omega) (by omega),k (lo+j) (by omega) (by omega)]
  exact h.2.2.1 i j ij jn
theorem Rns.snoc {xs:Array Keyed} {n p:Nat}:∀ {rs:List (Nat × Nat × Nat)} {lo hi:Nat},Rns κ xs lo rs hi->1<=n->Ris κ xs hi n->Rns κ xs lo (rs++[(hi,n,p)]) (hi+n)
 | [],lo,hi,h,n1,r=>by
  have e:lo=hi:=h
  subst e
  exact ⟨rfl,n1,r,rfl⟩
 | u::rs,lo,hi,h,n1,r=>⟨h.1,h.2.1,h.2.2.1,Rns.snoc h.2.2.2 n1 r⟩
theorem Rns.pow {xs:Array Keyed} {pw:Nat}:∀ {rs:List (Nat × Nat × Nat)} {lo hi:Nat} (i:Nat),Rns κ xs lo rs hi->Rns κ xs lo (rs.modify i fun x=>match x with | (st,len,_)=>(st,len,pw)) hi
 | [],lo,hi,i,h=>by cases i<;>exact h
 | u::rs,lo,hi,0,h=>by
  obtain ⟨a,b,c⟩:=u
  exact h
 | u::rs,lo,hi,i+1,h=>⟨h.1,h.2.1,h.2.2.1,Rns.pow i h.2.2.2⟩
theorem Rns.two {xs:Array Keyed}:∀ {pre:List (Nat × Nat × Nat)} {u v:Nat × Nat × Nat} {post:List (Nat × Nat × Nat)} {lo hi:Nat},Rns κ xs lo (pre++u::v::post) hi ->
  v.1=u.1+u.2.1/\1<=u.2.1/\1<=v.2.1/\v.1+v.2.1<=hi/\Ris κ xs u.1 u.2.1/\Ris κ xs v.1 v.2.1 /\
  ∀ ys:Array Keyed,(∀ i,i < u.1->KK κ ys i=KK κ xs i)->(∀ i,u.1+(u.2.1+v.2.1)<=i->KK κ ys i=KK κ xs i)->Ris κ ys u.1 (u.2.1+v.2.1)->Rns κ ys lo (pre++(u.1,u.2.1+v.2.1,u.2.2)::post) hi
 | [],u,v,post,lo,hi,h=>by
  obtain ⟨a1,a2,a3,b1,b2,b3,r⟩:=h
  have l:=Rns.len r
  subst a1
  refine ⟨b1,a2,b2,by omega,a3,by rw [b1];exact b3,fun ys k1 k2 up=>⟨rfl,by show 1<=u.2.1+v.2.1;omega,up,?_⟩⟩
  show Rns κ ys (u.1+(u.2.1+v.2.1)) post hi
  rw [<- Nat.add_assoc]
  exact r.kk fun i a b=>k2 i (by omega)
 | w::pre,u,v,post,lo,hi,h=>by
  obtain ⟨c1,c2,c3,r⟩:=h
  obtain ⟨d1,d2,d3,d4,d5,d6,d7⟩:=Rns.two r
  have pl:lo+w.2.1<=u.1:=by
   have:∀ (pre:List (Nat × Nat × Nat)) (lo:Nat),Rns κ xs lo (pre++u::v::post) hi->lo<=u.1:=by
    intro pre
    induction pre with
    | nil=>intro lo h;have:=h.1;omega
    | cons x l ih=>intro lo h;have:=ih _ h.2.2.2;omega
   exact this pre _ r
  refine ⟨d1,d2,d3,d4,d5,d6,fun ys k1 k2 up=>⟨c1,c2,fun i j ij jn=>?_,d7 ys k1 k2 up⟩⟩
  rw [k1 (lo+i) (by omega),k1 (lo+j) (by omega)]
  exact c3 i j ij jn
theorem kk_take {xs ys:Array Keyed} {m i:Nat} (e:ys.toList.take m=xs.toList.take m) (h:i < m):KK κ ys i=KK κ xs i:=by
 have g:ys[i]?=xs[i]?:=by
  have:=congrArg (fun l=>l[i]?) e
  simp only [List.getElem?_take,h,if_true,Array.getElem?_toList] at this
  exact this
 unfold KK
 rw [g]
theorem kk_drop {xs ys:Array Keyed} {m i:Nat} (e:ys.toList.drop m=xs.toList.drop m) (h:m<=i):KK κ ys i=KK κ xs i:=by
 have g:ys[i]?=xs[i]?:=by
  have:=congrArg (fun l=>l[i - m]?) e
  simp only [List.getElem?_drop,Array.getElem?_toList] at this
  rw [show m+(i - m)=i by omega] at this
  exact this
 unfold KK
 rw [g]
theorem mergeR {st:SortSt} {i hi:Nat} {R:Bool->SortSt->Prop} (C:CmpS prog w A E s src kd κ) (q:OkS src kd st) (hh:hi<=src.size) (rn:Rns κ (arrOf st) 0 (pendingOf st).toList hi) (hi1:i+1 < (pendingOf st).size)
  (h:∀ t,OkS src kd t->Rns κ (arrOf t) 0 (pendingOf t).toList hi->(pendingOf t).size+1=(pendingOf st).size->(∀ j,hi<=j->KK κ (arrOf t) j=KK κ (arrOf st) j)->R true t):wpS (model prog w) A E s (mergeAt' i) R st:=by
 generalize hL:(pendingOf st).toList=L at rn
 have lL:L.length=(pendingOf st).size:=by rw [<- hL,Array.length_toList]
 have i1:i < L.length:=by omega
 have i2:i+1 < L.length:=by omega
 have eL:L=L.take i++L[i]::L[i+1]::L.drop (i+2):=by
  rw [<- List.drop_eq_getElem_cons i2,<- List.drop_eq_getElem_cons i1,List.take_append_drop]
 have e1:(pendingOf st)[i]?=some L[i]:=by rw [<- Array.getElem?_toList,hL,List.getElem?_eq_getElem i1]
 have e2:(pendingOf st)[i+1]?=some L[i+1]:=by rw [<- Array.getElem?_toList,hL,List.getElem?_eq_getElem i2]
 generalize hu:L[i]=u at e1 eL
 generalize hv:L[i+1]=v at e2 eL
 rw [eL] at rn
 obtain ⟨d1,d2,d3,d4,d5,d6,d7⟩:=Rns.two rn
 obtain ⟨sa,na,p1⟩:=u
 obtain ⟨sb,nb,p2⟩:=v
 refine merge_ok C q e1 e2 d1 d2 d3 (by dsimp only at d4;omega) d5 d6 fun t qt pn mg=>?_
 have tl:(pendingOf t).toList=L.take i++(sa,na+nb,p1)::L.drop (i+2):=by
  rw [pn,Array.toList_eraseIdxIfInBounds,Array.toList_setIfInBounds,hL]
  conv=>lhs;rw [eL]
  have lt:(L.take i).length=i:=by rw [List.length_take];omega
  rw [List.set_append_right _ _ (by omega),lt,Nat.sub_self,List.set_cons_zero,List.eraseIdx_append_of_length_le (by omega),lt]
  simp
 have ris:Ris κ (arrOf t) sa (na+nb):=ris_of rfl (by
  have:=mg.pm.length_eq
  rw [this,List.length_take,List.length_drop,Array.length_toList,q.len]
  dsimp only at d1 d4
  omega) mg.up
 have low:∀ i,i < sa->KK κ (arrOf t) i=KK κ (arrOf st) i:=fun i h=>kk_take mg.lo h
 have high:∀ i,sa+(na+nb)<=i->KK κ (arrOf t) i=KK κ (arrOf st) i:=fun i h=>kk_drop mg.hi h
 refine h t qt ?_ ?_ fun j hj=>high j (by dsimp only at d1 d4;omega)
 ·rw [tl]
  exact d7 _ low high ris
 ·rw [<- Array.length_toList,tl,<- lL]
  conv=>rhs;rw [eL]
  simp
  omega
theorem Ris.kk {xs ys:Array Keyed} {lo n:Nat} (r:Ris κ xs lo n) (k:∀ j,lo<=j->KK κ ys j=KK κ xs j):Ris κ ys lo n:=fun i j ij jn=>by
 rw [k _ (by omega),k _ (by omega)]
 exact r i j ij jn
structure Stk (src:Array Keyed) (kd:SortKind) (κ:PyProof.Rows.KeyKind) (lo:Nat) (st:SortSt):Prop where
 ok:OkS src kd st
 rn:Rns κ (arrOf st) 0 (pendingOf st).toList lo
def pushRun (size lo n:Nat):SM (ForInStep (Option Unit × Nat)):=do
 let st <- get
 match (pendingOf st).back? with
 | some (s1,n1,_)=>do
  let c <- forIn [0:size] ((none:Option Unit),()) fun _ _=>do
   let st <- get
   match (if (pendingOf st).size > 1 then (pendingOf st)[(pendingOf st).size - 2]? else none) with
   | some (_,_,older) =>
    if older<=power' size (2 * s1+n1) (2 * s1+n1+n1+n) size then pure (ForInStep.done (none,()))
    else do
     let b <- mergeAt' ((pendingOf st).size - 2)
     if (!b)=true then pure (ForInStep.done (some (),())) else pure (ForInStep.yield (none,()))
   | _=>pure (ForInStep.done (none,()))
  match c.1 with
  | some r=>pure (ForInStep.done (some r,lo))
  | none=>do
   modify fun s=>setPending s ((pendingOf s).modify ((pendingOf s).size - 1) fun x=>(x.1,x.2.1,power' size (2 * s1+n1) (2 * s1+n1+n1+n) size))
   modify fun s=>setPending s ((pendingOf s).push (lo,n,0))
   pure (ForInStep.yield (none,lo+n))
 | _=>do
  modify fun s=>setPending s ((pendingOf s).push (lo,n,0))
  pure (ForInStep.yield (none,lo+n))
def runBody (size:Nat):Nat->(Option Unit × Nat)->SM (ForInStep (Option Unit × Nat)):=fun _ c =>
 if c.2 ≥ size then pure (ForInStep.done (none,c.2)) else do
  let x <- countRun' c.2 (size - c.2)
  match x with
  | some found =>
   if found < minRun' size size 0 then do
    liftM (rule "list.sort.binary-insertion")
    let b <- binarySort' c.2 (min (size - c.2) (minRun' size size 0)) found
    if (!b)=true then pure (ForInStep.done (some (),c.2)) else pushRun size c.2 (min (size - c.2) (minRun' size size 0))
   else pushRun size c.2 found
  | _=>pure (ForInStep.done (some (),c.2))
def pick (p:Array (Nat × Nat × Nat)):Nat :=
 let i:=p.size - 2
 let before:=if i > 0 then p[i - 1]?.map (·.2.1) else none
 if before.any (· < (p[i+1]?.elim 0 (·.2.1))) then i - 1 else i
theorem pick_le (p:Array (Nat × Nat × Nat)) (h:2<=p.size):pick p+1 < p.size:=by
 have:∀ b:Prop,[Decidable b]->(if b then p.size - 2 - 1 else p.size - 2)+1 < p.size:=fun b _=>by
  by_cases h:b
  ·rw [if_pos h];omega
  ·rw [if_neg h];omega
 exact this _
def endBody:Nat->(Option Unit × Unit)->SM (ForInStep (Option Unit × Unit)):=fun _ _=>do
 let st <- get
 if (pendingOf st).size<=1 then pure (ForInStep.done (none,())) else do
  let b <- mergeAt' (pick (pendingOf st))
  if (!b)=true then pure (ForInStep.done (some (),())) else pure (ForInStep.yield (none,()))
theorem runs_eq:sortRuns'=(do
  let st <- get
  let c <- forIn [0:(arrOf st).size] ((none:Option Unit),0) (runBody (arrOf st).size)
  match c.1 with
  | some r=>pure r
  | none=>do
   let c <- forIn [0:(arrOf st).size] ((none:Option Unit),()) endBody
   match c.1 with
   | some r=>pure r
   | none=>pure ()):=by kernel_rfl
theorem push_ok {st:SortSt} {lo n:Nat} {R:ForInStep (Option Unit × Nat)->SortSt->Prop} (C:CmpS prog w A E s src kd κ) (q:Stk src kd κ lo st) (n1:1<=n) (nn:lo+n<=src.size) (up:Ris κ (arrOf st) lo n)
  (k:∀ t,Stk src kd κ (lo+n) t->R (.yield (none,lo+n)) t):wpS (model prog w) A E s (pushRun src.size lo n) R st:=by
 unfold pushRun
 have fin:∀ t,Stk src kd κ lo t->Ris κ (arrOf t) lo n->Stk src kd κ (lo+n) (setPending t ((pendingOf t).push (lo,n,0))):=fun t qt u=>⟨⟨qt.ok.pm,qt.ok.kn,qt.ok.fl⟩,by
  show Rns κ (arrOf t) 0 ((pendingOf t).push (lo,n,0)).toList (lo+n)
  rw [Array.toList_push]
  exact qt.rn.snoc n1 u⟩
 refine wpS_bind (wpS_get ?_)
 generalize (pendingOf st).back?=bk
 match bk with
 | none=>exact wpS_bind (wpS_modify (wpS_pure (k _ (fin st q up))))
 | some (s1,n1',p1) =>
  dsimp only
  refine wpS_bind (wpS_mono (wpS_forRange (I:=fun x c t=>c=(none,())/\Stk src kd κ lo t/\∀ j,lo<=j->KK κ (arrOf t) j=KK κ (arrOf st) j) (Q:=fun c t=>c=(none,())/\Stk src kd κ lo t/\∀ j,lo<=j->KK κ (arrOf t) j=KK κ (arrOf st) j)
   (fun x c t _ xn z=>?_) (fun c t z=>z) ⟨rfl,q,fun _ _=>rfl⟩) fun c t z=>?_)
  ·obtain ⟨rfl,qt,kt⟩:=z
   refine wpS_bind (wpS_get ?_)
   by_cases c1:(pendingOf t).size > 1
   ·rw [if_pos c1,Array.getElem?_eq_getElem (show (pendingOf t).size - 2 < (pendingOf t).size by omega)]
    generalize (pendingOf t)[(pendingOf t).size - 2]=u
    obtain ⟨a,b,older⟩:=u
    dsimp only
    refine ite_wp (fun _=>wpS_pure ⟨rfl,qt,kt⟩) (fun _=>?_)
    refine wpS_bind (mergeR C qt.ok (by omega) qt.rn (by omega) fun t2 q2 r2 _ k2=>?_)
    exact wpS_pure ⟨rfl,⟨q2,r2⟩,fun j hj=>(k2 j hj).trans (kt j hj)⟩
   ·rw [if_neg c1]
    exact wpS_pure ⟨rfl,qt,kt⟩
  ·obtain ⟨rfl,qt,kt⟩:=z
   dsimp only
   generalize power' src.size (2 * s1+n1') (2 * s1+n1'+n1'+n) src.size=pw
   refine wpS_bind (wpS_modify (wpS_bind (wpS_modify (wpS_pure (k _ (fin _ ⟨⟨qt.ok.pm,qt.ok.kn,qt.ok.fl⟩,?_⟩ (up.kk kt)))))))
   show Rns κ (arrOf t) 0 ((pendingOf t).modify ((pendingOf t).size - 1) fun x=>(x.1,x.2.1,pw)).toList lo
   rw [Array.toList_modify]
   exact qt.rn.pow _
theorem all_runsL {st:SortSt} {R:Unit->SortSt->Prop} (C:CmpS prog w A E s src kd κ) (q:OkS src kd st) (pn:pendingOf st=#[]) (two:2<=src.size) (k:∀ t,Ended src κ t->R () t):wpS (model prog w) A E s sortRuns' R st:=by
 rw [runs_eq]
 refine wpS_bind (wpS_get ?_)
 rw [q.len]
 refine wpS_bind (wpS_mono (wpS_forRange (I:=fun x c t=>∃ lo,c=(none,lo)/\x<=lo/\lo<=src.size/\Stk src kd κ lo t) (Q:=fun c t=>c=(none,src.size)/\Stk src kd κ src.size t)
  (fun x c t _ xn z=>?_) (fun c t z=>?_) ⟨0,rfl,Nat.le_refl _,Nat.zero_le _,q,by rw [pn];exact rfl⟩) fun c t z=>?_)
 ·obtain ⟨lo,rfl,xl,ls,qt,rt⟩:=z
  unfold runBody
  dsimp only
  generalize minRun' src.size src.size 0=mr
  by_cases full:lo ≥ src.size
  ·rw [if_pos full]
   obtain rfl:lo=src.size:=by omega
   exact wpS_pure ⟨rfl,qt,rt⟩
  rw [if_neg full]
  refine wpS_bind (runL C qt (by omega) (by omega) fun l t1 q1 f1 l1 ln u1=>?_)
  dsimp only
  have r1:Rns κ (arrOf t1) 0 (pendingOf t1).toList lo:=by
   rw [f1.pn]
   exact rt.kk fun i _ h=>f1.at_ i h
  by_cases short:l < mr
  ·rw [if_pos short]
   refine wpS_bind (wpS_lift (wpAny_rule ⟨rfl,?_⟩))
   have fo:min (src.size - lo) mr<=src.size - lo:=Nat.min_le_left _ _
   have fl:l<=min (src.size - lo) mr:=Nat.le_min.mpr ⟨ln,Nat.le_of_lt short⟩
   generalize min (src.size - lo) mr=force at fo fl ⊢
   refine wpS_bind (insL C q1 (by omega) l1 fl u1 fun t2 q2 f2 u2=>?_)
   simp only [Bool.not_true,Bool.false_eq_true,if_false]
   refine push_ok C ⟨q2,?_⟩ (by omega) (by omega) u2 fun t3 q3=>⟨_,rfl,by omega,by omega,q3⟩
   rw [f2.pn]
   exact r1.kk fun i _ h=>f2.at_ i h
  ·rw [if_neg short]
   exact push_ok C ⟨q1,r1⟩ l1 (by omega) u1 fun t3 q3=>⟨_,rfl,by omega,by omega,q3⟩
 ·obtain ⟨lo,rfl,xl,ls,qt⟩:=z
  obtain rfl:lo=src.size:=by omega
  exact ⟨rfl,qt⟩
 ·obtain ⟨rfl,qt,rt⟩:=z
  dsimp only
  have len:∀ {t},Stk src kd κ src.size t->(pendingOf t).size<=src.size:=fun {t} q=>by
   have:=q.rn.len
   rw [Array.length_toList] at this
   omega
  have pos:∀ {t},Stk src kd κ src.size t->1<=(pendingOf t).size:=fun {t} q=>by
   have:=q.rn
   rw [<- Array.length_toList]
   generalize (pendingOf t).toList=L at this
   match L,this with
   | [],h=>have:0=src.size:=h;omega
   | _::_,_=>simp
  refine wpS_bind (wpS_mono (wpS_forRange (I:=fun x c t'=>c=(none,())/\Stk src kd κ src.size t'/\(pendingOf t').size+x<=max src.size (x+1)) (Q:=fun c t'=>c=(none,())/\Stk src kd κ src.size t'/\(pendingOf t').size<=1)
   (fun x c t' _ xn z=>?_) (fun c t' z=>?_) ⟨rfl,⟨qt,rt⟩,by have:=len ⟨qt,rt⟩;omega⟩) fun c t' z=>?_)
  ·obtain ⟨rfl,q',hx⟩:=z
   unfold endBody
   refine wpS_bind (wpS_get ?_)
   by_cases few:(pendingOf t').size<=1
   ·rw [if_pos few]
    exact wpS_pure ⟨rfl,q',few⟩
   rw [if_neg few]
   refine wpS_bind (mergeR C q'.ok (Nat.le_refl _) q'.rn (pick_le _ (by omega)) fun t2 q2 r2 e2 _=>?_)
   exact wpS_pure ⟨rfl,⟨q2,r2⟩,by omega⟩
  ·obtain ⟨rfl,q',hx⟩:=z
   exact ⟨rfl,q',by omega⟩
  ·obtain ⟨rfl,q',one⟩:=z
   refine wpS_pure (k _ ⟨q'.ok.pm,q'.ok.fl,by have:=pos q';omega,?_⟩)
   have:=q'.rn
   have l1:(pendingOf t').toList.length=1:=by rw [Array.length_toList];have:=pos q';omega
   generalize (pendingOf t').toList=L at this l1
   match L,l1,this with
   | [u],_,h =>
    obtain ⟨a,b,r,e⟩:=h
    have e:0+u.2.1=src.size:=e
    intro i j ij jn
    have:=r i j ij (by omega)
    rw [Nat.zero_add,Nat.zero_add] at this
    exact this
theorem sort_anyL {h:Heap} {us:List Value} {P:Fin->Shared->Prop} (hs:s.heap=h.push (seqObj "list" us.toArray 0)) (few:us.length<=PySem.sizeLine) (kd:SortKind) (κ:PyProof.Rows.KeyKind)
  (hk:∀ (t:Shared),(∀ b o,h.get? b=some o->t.heap.get? b=some o)->2<=us.length->∀ (R:SortKind->Shared->Prop),R kd t->wpAny (model prog w) A (keyKind' us.toArray) R E t)
  (C:∀ (t:Shared),(∀ b o,h.get? b=some o->t.heap.get? b=some o)->CmpS prog w A E t (pairsOf us) kd κ)
  (k:∀ (out:Array Keyed) (n:Nat) (h2:Heap),out.Perm (pairsOf us)->SortedToK κ out us.length->(∀ b o,h.get? b=some o->h2.get? b=some o)->h2.get? h.objs.size=some (seqObj "list" (out.map (·.2)) n)->P (.done (.ret .none)) { s with heap:=h2 }) :
  wpAny (model prog w) A (Builtin.«list.sort» ⟨[.ref h.objs.size],[]⟩) P E s:=by
 have ho:s.heap.get? h.objs.size=some (seqObj "list" us.toArray 0):=by rw [hs];exact Heap.get?_push_size _ rfl
 have old:∀ b o,h.get? b=some o->b≠h.objs.size:=fun b o e=>Nat.ne_of_lt (Heap.lt_size e)
 have k0:∀ b o,h.get? b=some o->s.heap.get? b=some o:=fun b o e=>by rw [hs];exact Heap.get?_push_of_some _ e
 rw [list_sort_plain]
 refine wpAny_bind (listItems_at ho rfl ?_)
 refine wpAny_bind (listUpdate_at ho rfl ?_)
 have ho1:=get?_update_seq ho (fun _=>#[])
 have k1:∀ b o,h.get? b=some o->(s.heap.update h.objs.size (Obj.mapSeq fun _=>#[])).get? b=some o:=fun b o e=>(Heap.get?_update_other _ _ (Ne.symm (old b o e))).trans (k0 b o e)
 generalize s.heap.update h.objs.size (Obj.mapSeq fun _=>#[])=h1 at ho1 k1 ⊢
 generalize (if ((fun _=>#[]) us.toArray).size == us.toArray.size then 0 else 0+1)=e1 at ho1
 refine wpAny_bind (seqEpoch_at ho1 rfl ?_)
 refine wpAny_bind (wpAny_newTuple ?_ few)
 refine wpAny_bind (wpAny_newList ?_)
 refine wpAny_holding ?_
 dsimp only
 have lt1:@LT.lt Nat _ h.objs.size h1.objs.size:=Heap.lt_size ho1
 have k2:∀ b o,h1.get? b=some o->((h1.push (seqObj "tuple" us.toArray.toList.toArray 0)).push (seqObj "list" #[] 0)).get? b=some o:=fun b o e=>Heap.get?_push_of_some _ (Heap.get?_push_of_some _ e)
 have ho2:=k2 _ _ ho1
 show wpAny (model prog w) A _ P E { s with heap:=(h1.push (seqObj "tuple" us.toArray.toList.toArray 0)).push (seqObj "list" #[] 0) }
 generalize (h1.push (seqObj "tuple" us.toArray.toList.toArray 0)).push (seqObj "list" #[] 0)=h2 at k2 ho2 ⊢
 have us2:us.toArray.size=us.length:=List.size_toArray ..
 by_cases two:us.length < 2
 ·rw [if_pos (by rw [us2];exact two)]
  refine wpAny_bind (wpAny_pure ?_)
  rw [if_pos (by rw [us2];exact two),StateT.run_pure]
  refine wpAny_bind (wpAny_pure ?_)
  have up:SortedToK κ (pairsOf us) us.length:=fun i j ij j1=>by
   obtain rfl:i=j:=by omega
   exact KeyOrd.kle_refl _
  obtain ⟨st,es,ef,pm⟩:∃ st,st=SortSt.mk' general' (us.toArray.zip us.toArray) #[] 7 none/\failedOf st=none/\arrOf st=pairsOf us:=⟨_,rfl,rfl,rfl⟩
  rw [<- es]
  dsimp only
  have len:((arrOf st).map (·.2)).size=us.length:=by rw [Array.size_map,((by rw [pm]:(arrOf st).Perm (pairsOf us))).size_eq,pairsOf_size]
  refine wpAny_bind (seqEpoch_at ho2 rfl ?_)
  refine wpAny_bind (listUpdate_at ho2 rfl ?_ (hsz2:=by rw [len];exact Nat.le_succ_of_le few))
  rw [ef]
  dsimp only
  rw [if_neg (by simp)]
  have ho3:=get?_update_seq ho2 (fun _=>(arrOf st).map (·.2))
  exact wpAny_pure (k (arrOf st) _ _ ((by rw [pm]:(arrOf st).Perm (pairsOf us))) (by rw [pm];exact up) (fun b o e=>(Heap.get?_update_other _ _ (Ne.symm (old b o e))).trans (k2 b o (k1 b o e))) ho3)
 ·rw [if_neg (by rw [us2];exact two)]
  refine wpAny_bind (hk _ (fun b o e=>k2 b o (k1 b o e)) (by omega) _ ?_)
  rw [if_neg (by rw [us2];exact two)]
  refine wpAny_bind (wpAny_mono (all_runsL (R:=fun _ t=>Ended (pairsOf us) κ t) (C _ (fun b o e=>k2 b o (k1 b o e))) (st:=SortSt.mk' kd (us.toArray.zip us.toArray) #[] 7 none) ⟨Array.Perm.refl _,rfl,rfl⟩ rfl (by rw [pairsOf_size];omega) fun t en=>en) (fun r s' z=>?_) fun _ _ z=>z)
  obtain ⟨u,st⟩:=r
  obtain ⟨e,en⟩:=z
  subst e
  have up:=en.up
  rw [pairsOf_size] at up
  dsimp only
  have len:((arrOf st).map (·.2)).size=us.length:=by rw [Array.size_map,(en.pm).size_eq,pairsOf_size]
  refine wpAny_bind (seqEpoch_at ho2 rfl ?_)
  refine wpAny_bind (listUpdate_at ho2 rfl ?_ (hsz2:=by rw [len];exact Nat.le_succ_of_le few))
  rw [en.fl]
  dsimp only
  rw [if_neg (by simp)]
  have ho3:=get?_update_seq ho2 (fun _=>(arrOf st).map (·.2))
  exact wpAny_pure (k (arrOf st) _ _ (en.pm) (up) (fun b o e=>(Heap.get?_update_other _ _ (Ne.symm (old b o e))).trans (k2 b o (k1 b o e))) ho3)
end
end L2
namespace L3
open PySem PySem.Spec PyProof.Rows L2
section
variable {prog:Program} {w:World} {A:Around} {E:Value->Shared->Prop} {s:Shared}
theorem cmp_tupsL {us:List Value} {f:Addr->List Str} (k:∀ v∈us,TupF s.heap f v):CmpS prog w A E s (pairsOf us) (tuples' true) (tupOrd f):=by
 intro st i j R q hi hj hR
 have at_:∀ {i:Nat},i < (pairsOf us).size->∃ a its p,(arrOf st)[i]?=some (.ref a,p)/\IsTup s.heap a its.toArray/\StrsAre its (f a):=fun {i} hi=>by
  have hi':i < (arrOf st).size:=by rw [q.len];exact hi
  have m:(arrOf st)[i]∈(pairsOf us).toList:=by
   have:(arrOf st)[i]∈pairsOf us:=q.pm.mem_iff.mp (Array.getElem_mem hi')
   simpa using this
  have m2:((arrOf st)[i]).1∈us:=by
   have:(arrOf st)[i]∈us.zip us:=by simpa [pairsOf] using m
   exact (List.of_mem_zip this).1
  obtain ⟨a,its,e,h1,h2,_⟩:=k _ m2
  exact ⟨a,its,((arrOf st)[i]).2,by rw [Array.getElem?_eq_getElem hi',<- e],h1,h2⟩
 obtain ⟨a,ia,pa,ea,ta,sa⟩:=at_ hi
 obtain ⟨b,ib,pb,eb,tb,sb⟩:=at_ hj
 have ka:ky (tupOrd f) st i=f a:=by show KK _ _ _=_;unfold KK;rw [ea];rfl
 have kb:ky (tupOrd f) st j=f b:=by show KK _ _ _=_;unfold KK;rw [eb];rfl
 rw [ka,kb] at hR
 rw [ltAt'_eq]
 refine wpS_bind (wpS_get ?_)
 show wpS _ _ _ _ (do let x <- elem' (arrOf st) i;let y <- elem' (arrOf st) j;lt' x y) R st
 rw [elem'_eq,elem'_eq,ea,eb]
 refine wpS_bind (wpS_pure (wpS_bind (wpS_pure ?_)))
 rw [lt'_eq]
 refine wpS_bind (wpS_get ?_)
 rw [q.kn]
 refine wpS_bind (wpS_lift (wpAny_attempt (lt_tups ta tb sa sb ⟨rfl,?_⟩)))
 exact wpS_pure hR
theorem sorts_tupsL {h:Heap} {tk:Nat} {us:List Value} {f:Addr->List Str} {Q:Value->Shared->Prop} (hk:∀ v∈us,TupF h f v) (few:us.length<=PySem.sizeLine)
  (q:∀ (out:List Addr) (n:Nat) (h2:Heap),(out.map Value.ref).Perm us->out.Pairwise (fun a b=>ltT (f b) (f a)=false)->(∀ b o,h.get? b=some o->h2.get? b=some o)->h2.get? h.objs.size=some { cls:=.type "list",data:=.seq (out.map Value.ref).toArray n }->Q (.ref h.objs.size) { s with heap:=h2,toks:=tk }) :
  wpAny (model prog w) A (call (.builtin "list.sort") [.ref h.objs.size]) (fun _ s'=>Q (.ref h.objs.size) s') E { s with heap:=h.push { cls:=.type "list",data:=.seq us.toArray },toks:=tk }:=by
 have at0:(h.push { cls:=.type "list",data:=.seq us.toArray }).get? h.objs.size=some (seqObj "list" us.toArray 0):=Heap.get?_push_size _ rfl
 refine wpAny_call_entry PySem.F.slot_list_sort ⟨_,at0,rfl⟩ PySem.F.entry_list_sort ?_ (args_list_sort _)
 refine sort_anyL (h:=h) (us:=us) rfl few (tuples' true) (tupOrd f) (fun t kp two R r=>?_) (fun t kp=>cmp_tupsL fun v hv=>(hk v hv).keep kp) fun out n h2 pm srt kp g=>⟨_,rfl,?_⟩
 ·obtain ⟨zss,T,ne⟩:=tupsV_of fun v hv=>(hk v hv).keep kp
  exact kind_tups T ne two r
 ·have ln:out.size=us.length:=by rw [pm.size_eq,pairsOf_size]
  have pr:∀ x∈out.toList,x.1=x.2/\x.2∈us:=fun x hx=>by
   have m:x∈(pairsOf us).toList:=by
    have:x∈pairsOf us:=pm.mem_iff.mp (by simpa using hx)
    simpa using this
   have m':x∈us.zip us:=by simpa [pairsOf] using m
   obtain ⟨a,b⟩:=x
   refine ⟨?_,(List.of_mem_zip m').2⟩
   obtain ⟨i,hi,e⟩:=List.getElem_of_mem m'
   rw [List.getElem_zip] at e
   cases e
   rfl
  have ad:∃ outs:List Addr,out.toList.map (·.2)=outs.map Value.ref:=by
   have:∀ l:List Keyed,(∀ x∈l,x.2∈us)->∃ outs:List Addr,l.map (·.2)=outs.map Value.ref:=by
    intro l
    induction l with
    | nil=>intro _;exact ⟨[],rfl⟩
    | cons x l ih =>
     intro hx
     obtain ⟨outs,e⟩:=ih fun y hy=>hx y (List.mem_cons_of_mem _ hy)
     obtain ⟨a,its,ea,_⟩:=hk _ (hx x List.mem_cons_self)
     exact ⟨a::outs,by rw [List.map_cons,List.map_cons,e,ea]⟩
   exact this _ fun x hx=>(pr x hx).2
  obtain ⟨outs,eo⟩:=ad
  have lo:outs.length=us.length:=by
   have:=congrArg List.length eo
   simp at this
   omega
  have zu:(us.zip us).map (·.2)=us:=by
   have:∀ l:List Value,(l.zip l).map (·.2)=l:=fun l=>by induction l with | nil=>rfl | cons x l ih=>simp [ih]
   exact this us
  refine q outs n h2 ?_ ?_ kp ?_
  ·rw [<- eo]
   have p1:out.toList.Perm (pairsOf us).toList:=Array.perm_iff_toList_perm.mp pm
   have p2:=p1.map (·.2)
   have e2:(pairsOf us).toList.map (·.2)=us:=by
    have:(pairsOf us).toList=us.zip us:=by simp [pairsOf]
    rw [this,zu]
   rw [e2] at p2
   exact p2
  ·refine List.pairwise_iff_getElem.mpr fun i j hi hj ij=>?_
   have s0:=srt i j (by omega) (by omega)
   have kk:∀ {i:Nat} (hi:i < outs.length),KK (tupOrd f) out i=f outs[i]:=fun {i} hi=>by
    have hi':i < out.size:=by omega
    have e1:out[i]?=some out[i]:=Array.getElem?_eq_getElem hi'
    have m:=pr out[i] (by simp)
    have e2:out[i].2=Value.ref outs[i]:=by
     have:=congrArg (fun l=>l[i]?) eo
     simp [hi',hi] at this
     exact this
    unfold KK
    rw [e1]
    show ((tupOrd f).keyOf out[i].1).getD _=_
    rw [m.1,e2]
    rfl
   rw [kk hi,kk hj] at s0
   exact s0
  ·rw [g]
   have:(out.map (·.2))=(outs.map Value.ref).toArray:=by
    apply Array.toList_inj.mp
    simp [eo]
   rw [this]
end
section
variable {X:Cx}
def rSortTL (K:PySem.W.Frag):List V->Hp->VK->Prop:=fun xs H Q=>∃ (p:Addr) (ps:List (Addr × List Str)),xs=[.ref p]/\SqL K H p (ps.map fun q=>V.ref q.1)/\Hold H ps/\(∀ x∈ps,x.2≠[])/\ps.length<=10000 /\
  ∀ l (qs:List (Addr × List Str)),H l=none->qs.Perm ps->qs.Pairwise (fun a b=>ltT b.2 a.2=false)->Q (.ref l) (upd H l (.lst (qs.map fun q=>V.ref q.1)))
theorem call_sorted_ltL:CallR X (.builtin "sorted") (rSortTL X.K):=by
 intro pins s σ H xs us Q I r h
 obtain ⟨p,ps,rfl,hp,hold,ne,few,q⟩:=h
 obtain ⟨u,rfl,rx⟩:=vals1 r
 cases rx
 obtain ⟨its,rv,pl,_⟩:=I.list hp
 have hl:=rv.length
 rw [List.length_map] at hl
 have ei:its=ps.map fun q=>Value.ref q.1:=by
  have:∀ (l:List (Addr × List Str)) (vs:List Value),Vals (l.map fun q=>V.ref q.1) vs->vs=l.map fun q=>Value.ref q.1:=by
   intro l
   induction l with
   | nil=>intro vs h;cases h;rfl
   | cons x l ih =>
    intro vs h
    cases h with
    | cons r t =>
     cases r
     rw [ih _ t]
     rfl
  exact this ps its rv
 refine Calls.call_function_entry kind_sorted plain_sorted entry_sorted (args_sorted1 _) ?_
 unfold Builtin.«sorted»
 apply wpAny_bind (m:=checkCount "sorted" 1 1 _)
 apply wpAny_pure
 apply wpAny_bind
 obtain ⟨o,ho,hc,n0,hd⟩:=pl.isList
 refine wpAny_collect_seq p (.inl rfl) ho hc hd (fun h1 keep=>?_) (by simp only [List.size_toArray];exact Nat.le_trans (by omega) (show 10000<=sizeLine by decide))
 have tf:∀ v∈its,TupF h1 (keyAt ps) v:=fun v hv=>by
  rw [ei] at hv
  obtain ⟨pp,hpp,rfl⟩:=List.mem_map.mp hv
  obtain ⟨its,rv,⟨ot,ho,r1⟩,_⟩:=I.tuple (SqT.of (K:=X.K) (hold pp hpp))
  have e:=keyAt_of hold hpp
  exact ⟨pp.1,its,rfl,⟨ot,keep _ _ ho,r1⟩,by rw [e];exact strs_of rv,by rw [e];exact ne pp hpp⟩
 apply wpAny_bind
 refine wpAny_newList ?_ (by simp only [];exact Nat.le_trans (by omega) (show 10000<=sizeLine by decide))
 apply wpAny_bind
 apply wpAny_holding
 refine wpAny_mono (sorts_tupsL (prog:=X.prog) (w:=X.w) (s:=s) (h:=h1) (us:=its) (tk:=s.toks) (Q:=EP X pins σ Q) tf (Nat.le_trans (show its.length<=10000 by omega) (by decide)) fun out n h2 o1 o2 o3 o4=>?_) (fun _ _ z=>wpAny_pure ⟨_,rfl,z⟩) fun _ _ z=>z
 have no:s.heap.get? h1.objs.size=none:=by
  cases e:s.heap.get? h1.objs.size with
  | none=>rfl
  | some o=>exact absurd (Heap.lt_size (keep _ _ e)) (Nat.lt_irrefl _)
 have noH:H h1.objs.size=none:=by
  cases e:H h1.objs.size with
  | none=>rfl
  | some o =>
   obtain ⟨u,eu⟩:=(I.hok _ _ e).there
   rw [no] at eu;cases eu
 have pa:out.Perm (ps.map (·.1)):=by
  have:=(ei ▸ o1).map fun v=>match v with | Value.ref a=>a | _=>0
  rw [List.map_map,List.map_map] at this
  have e1:(out.map ((fun v=>match v with | Value.ref a=>a | _=>0) ∘ Value.ref))=out:=by
   rw [show ((fun v=>match v with | Value.ref a=>a | _=>(0:Addr)) ∘ Value.ref)=id from rfl];simp
  rw [e1] at this
  exact this
 have qp:(out.map fun a=>(a,keyAt ps a)).Perm ps:=by
  have:=pa.map fun a=>(a,keyAt ps a)
  rw [List.map_map] at this
  have e:ps.map ((fun a=>(a,keyAt ps a)) ∘ (·.1))=ps:=by
   have:∀ l:List (Addr × List Str),(∀ x∈l,x∈ps)->l.map ((fun a=>(a,keyAt ps a)) ∘ (·.1))=l:=by
    intro l
    induction l with
    | nil=>intro _;rfl
    | cons y l ih =>
     intro hy
     rw [List.map_cons,ih fun z hz=>hy z (List.mem_cons_of_mem _ hz)]
     show (y.1,keyAt ps y.1)::l=y::l
     rw [keyAt_of hold (hy y List.mem_cons_self)]
   exact this ps fun _ h=>h
  rw [e] at this
  exact this
 have qw:(out.map fun a=>(a,keyAt ps a)).Pairwise (fun a b=>ltT b.2 a.2=false):=List.pairwise_map.mpr o2
 have em:(out.map fun a=>(a,keyAt ps a)).map (fun q=>V.ref q.1)=out.map V.ref:=by rw [List.map_map];rfl
 have fin:=q h1.objs.size _ noH qp qw
 rw [em] at fin
 refine ⟨.ref h1.objs.size,_,I.laidN (t':=s.toks) (o:=.lst (out.map V.ref)) (fun b o e=>o3 _ _ (keep _ _ e)) no noH ?_,rfl,fin⟩
 refine ⟨by rw [List.length_map];have:=qp.length_eq;rw [List.length_map] at this;rw [this];exact Nat.le_trans few (by decide),out.map Value.ref,n,?_,o4⟩
 have:∀ l:List Addr,Vals (l.map V.ref) (l.map Value.ref):=fun l=>by
  induction l with
  | nil=>exact .nil
  | cons x l ih=>exact .cons rfl ih
 exact this out
end
end L3
namespace K22
open PySem PySem.Spec PyProof.Rows L2 L3
theorem sts_sets {ns:List Str} {ps:List (Str × Str)} {ys:List Str} {fs:List St0} (hi:InP ns ps) (h:Sts ns ps ys fs):(fs.map (setOf (srt ns))).Nodup/\∀ X,X∈fs.map (setOf (srt ns))->(X=(srt ns).filter fun y=>decide (y∈X))/\∀ p∈ps,p.1∈X->p.2∈X:=by
 have mem:∀ f∈fs,∀ y,y∈setOf (srt ns) f ↔ y∈ns/\tf f y=true:=fun f hf y=>by unfold setOf;rw [List.mem_filter,srt_mem]
 have tru:∀ (f:St0) (y:Str),tf f y=true->f y=some true:=fun f y e=>by
  unfold tf at e
  cases c:f y with
  | none=>rw [c] at e;cases e
  | some b=>rw [c] at e;exact congrArg some e
 have shf:∀ f∈fs,shutP ps (tf f):=fun f hf p hp e=>by
  have:=(h.gd f hf).up p.1 p.2 (tru f _ e) (.one (by obtain ⟨a,b⟩:=p;exact hp))
  unfold tf;rw [this];rfl
 have same:∀ f∈fs,∀ g∈fs,setOf (srt ns) g=setOf (srt ns) f->comp (tf f) g:=fun f hf g hg e y b eb=>by
  have hy:y∈ns:=(h.gd g hg).dom y (by rw [eb];intro z;cases z)
  have eg':tf g y=b:=by unfold tf;rw [eb];rfl
  have m1:=mem g hg y
  rw [e,mem f hf y] at m1
  rw [<- eg']
  cases c1:tf f y<;>cases c2:tf g y
  ·rfl
  ·have:=(m1.mpr ⟨hy,c2⟩).2;rw [c1] at this;cases this
  ·have:=(m1.mp ⟨hy,c1⟩).2;rw [c2] at this;cases this
  ·rfl
 constructor
 ·rw [List.nodup_iff_count]
  intro X
  by_cases hX:X∈fs.map (setOf (srt ns))
  ·obtain ⟨f,hf,rfl⟩:=List.mem_map.mp hX
   rw [List.count_eq_countP,List.countP_map,<- h.one _ (shf f hf)]
   unfold cN
   refine List.countP_mono_left fun g hg e=>?_
   have e:setOf (srt ns) g=setOf (srt ns) f:=by simpa using e
   simpa using same f hf g hg e
  ·rw [List.count_eq_zero.mpr hX]
   exact Nat.zero_le _
 ·intro X hX
  obtain ⟨f,hf,rfl⟩:=List.mem_map.mp hX
  refine ⟨?_,fun p hp h1=>?_⟩
  ·conv=>lhs;unfold setOf
   refine List.filter_congr fun y hy=>?_
   rw [Bool.eq_iff_iff,decide_eq_true_iff,mem f hf y]
   exact ⟨fun e=>⟨srt_mem.mp hy,e⟩,fun e=>e.2⟩
  ·rw [mem f hf] at h1 ⊢
   exact ⟨(hi p hp).2,shf f hf p hp h1.2⟩
theorem len_erase {α:Type} [DecidableEq α] {l:List α} (nd:l.Nodup) (a:α):l.length<=(l.filter fun x=>decide (x≠a)).length+1:=by
 have:(l.filter fun x=>decide (x≠a))=l.erase a:=by rw [nd.erase_eq_filter];exact List.filter_congr fun x _=>by by_cases c:x=a<;>simp [c]
 rw [this]
 have:=List.length_erase (a:=a) (l:=l)
 rw [this]
 split<;>omega
theorem sts_many {ns:List Str} {ps:List (Str × Str)} {ys:List Str} {fs:List St0} (hi:InP ns ps) (h:Sts ns ps ys fs) {cs:List (List Str)} (me:∀ X,CutX (srt ns) ps X->X∈cs):fs.length<=cs.length+2:=by
 obtain ⟨nd,cl⟩:=sts_sets hi h
 have e1:=len_erase nd []
 have e2:=len_erase (List.Nodup.sublist List.filter_sublist nd:((fs.map (setOf (srt ns))).filter fun x=>decide (x≠[])).Nodup) (srt ns)
 rw [List.length_map] at e1
 have nd3:(((fs.map (setOf (srt ns))).filter fun x=>decide (x≠[])).filter fun x=>decide (x≠srt ns)).Nodup:=List.Nodup.sublist List.filter_sublist (List.Nodup.sublist List.filter_sublist nd)
 have sub:(((fs.map (setOf (srt ns))).filter fun x=>decide (x≠[])).filter fun x=>decide (x≠srt ns)) ⊆ cs:=fun X hX=>by
  obtain ⟨hX,n2⟩:=List.mem_filter.mp hX
  obtain ⟨hX,n1⟩:=List.mem_filter.mp hX
  have n1:=of_decide_eq_true n1
  have n2:=of_decide_eq_true n2
  obtain ⟨eq,sh⟩:=cl X hX
  refine me X ⟨eq,sh,?_,?_⟩
  ·exact List.length_pos_iff.mpr n1
  ·rcases Nat.lt_or_ge X.length (srt ns).length with q | q
   ·exact q
   ·refine absurd ?_ n2
    have sl:X.Sublist (srt ns):=by rw [eq];exact List.filter_sublist
    exact sl.eq_of_length_le q
 have:=nd3.length_le_of_subset sub
 omega
abbrev sAll:Stmt:=top 37 -- all_cuts
abbrev rLen (K:PySem.W.Frag):List V->Hp->VK->Prop:=fun xs H Q=>∃ (p:Addr) (ys:List V),xs=[V.ref p]/\(SqL K H p ys\/SqT K H p ys)/\Q (V.int ys.length) H
abbrev rTupO (K:PySem.W.Frag):List V->Hp->VK->Prop:=fun xs H Q=>∃ p ys,xs=[.ref p]/\((SqL K H p ys/\∀ l,H l=none->Q (.ref l) (upd H l (.tup ys)))\/(SqT K H p ys/\Q (.ref p) H))
structure CutsOk (zs:List Str) (ps:List (Str × Str)) (cs:List (List Str)):Prop where
 nd:cs.Nodup
 me:∀ X,X∈cs ↔ CutX zs ps X
 up:cs.Pairwise fun a b=>ltT b a=false
 few:cs.length<=1022
theorem hold_same {H H':Hp} {qs:List (Addr × List Str)} (h:Hold H qs) (s:Same H H'):Hold H' qs:=fun q hq=>s _ _ (h q hq)
theorem hold_snoc {H:Hp} {qs:List (Addr × List Str)} {q:Addr × List Str} (h:Hold H qs) (k:H q.1=some (.tup (q.2.map V.str))):Hold H (qs++[q]):=fun p hp=>(List.mem_append.mp hp).elim (h p) fun e=>by rw [List.mem_singleton.mp e];exact k
section
variable {P:Program} {w:World} {K:PySem.W.Frag} {mg:Str->Option Value} {base:Heap}
variable {C E7 fP fS fBo:Addr} {fdP fdS fdBo:FuncData}
def Many (zs:List Str) (ps:List (Str × Str)):Prop:=∀ cs:List (List Str),(∀ X,CutX zs ps X->X∈cs)->1022 < cs.length
def spAC (C E7:Addr):Sp:=fun vs H Q R=>∃ (x:Addr) (ns:List Str) (ps:List (Str × Str)),vs=[.ref x]/\WebObj C H x ns ps/\GoodW ns ps/\(∀ H',Many (srt ns) ps->Same H H'->R (.ref E7) none H')/\∀ (q:Addr) (qs:List (Addr × List Str)) (H':Hp),H q=none->H' q=some (.lst (qs.map fun q=>V.ref q.1))->Hold H' qs->CutsOk (srt ns) ps (qs.map (·.2))->Same H H'->Q (.ref q) H'
abbrev nAC:List Str:=["web","states","place","sets"]
theorem scAC:FnScope nAC ["web"] (defScope sAll):=⟨rfl,rfl,rfl,by decide +kernel,rfl,by decide +kernel,by decide +kernel⟩
theorem ok_ac {f:Addr} {fd:FuncData} (F:Fun K "all_cuts" "all_cuts" sAll f fd) (M:Mt K mg C fP fS fdP fdS) (DB:Df K mg "both_settled" sBoth aBo fBo fdBo) (GB:FnOk P w K mg base CX0 4 fBo fdBo aBo (spBoth C)) (hm:∃ t,mg "MOST_CUTS" = some (.int 1022 t)) (X7:Ex K mg "TooMany" E7) (T:Glb mg):FnOk P w K mg base (CXO P w) 5 f fd ["web"] (spAC C E7):=by
 have GP:FnOk P w K mg base CX0 1 fP fdP ["self"] (spPl C):=ok_places M.pF M.wc T
 refine F.okO scAC (fun vs H Q E h=>?_) (fun cdv A outer s H vs Q E hr h=>?_)
 ·obtain ⟨x,ns,ps,rfl,_⟩:=h
  rfl
 ·obtain ⟨x,ns,ps,rfl,W,g,kX,k⟩:=h
  obtain ⟨Bn,newId,initId,bm,q7,FB⟩:=X7.bm
  obtain ⟨tm,hmc⟩:=hm
  have hu:=hu_of hr
  have h1:=hr.mono (j:=1) (by decide)
  refine ⟨_,pss_cons (ps_set (i:=1) scAC.nd rfl (Or.inl rfl) (pe_lst (pa_cons pe_dnewK pa_nil)))
   (pss_cons (ps_for PassesOwn.leaving rfl (pi_list (pe_meth0 (pv 0) M.wc.cl M.pM GP h1 M.pB .nil pass0)) (pg_name (i:=2) scAC.nd rfl (Or.inl rfl))
    (pss_cons (ps_set (i:=1) scAC.nd rfl (Or.inl rfl) (pe_call GB hr rfl DB.mgf DB.fn.kp DB.b .nil pass0 (pa_cons (pv 0) (pa_cons (pv 1) (pa_cons (pv 2) pa_nil)))))
    (pss_one (ps_if (pt_cmpR op_gt (pe_callB call_len_seq (by rfl) T.len PySem.boot_len (pa_cons (pv 1) pa_nil)) (pe_op op_add (pe_glob (v:=.int 1022) rfl hmc ⟨tm,rfl⟩) pe_int) (nomark _)) (pss_one (ps_raise rfl X7.b q7 FB (pa_cons pe_str pa_nil))) pss_nil))))
   (pss_cons (ps_setL (i:=3) ["state"] [0] scAC.nd rfl rfl rfl (compSc (osc:=(defScope sAll).names) (N:=nAC) rfl rfl (by decide +kernel)) (gk_name (by decide)) (pi_list (pv 1))
    (fun _ _ _=>pg_name (i:=0) (show (["state","web"]:List Str).Nodup by decide +kernel) rfl (Or.inr rfl)) (fun _ _ _=>pifs_nil)
    (fun _ _ _=>pe_callTy (r:=rTupO K) call_tuple_of (by rfl) T.tuple PyProof.Rows.boot_tuple (pa_cons
     (pe_lc ["place"] [0] rfl (compSc (osc:=[(".0",.local),("state",.cell),("tuple",.globalImplicit),("web",.cell)]) (N:=["state","web"]) rfl rfl (by decide +kernel)) (gk_name (by decide)) (pi_listK' (K:=K) rfl (pe_meth0 (pv 1) M.wc.cl M.pM GP h1 M.pB .nil pass0))
      (fun _ _ _=>pg_name (i:=0) (show (["place","state"]:List Str).Nodup by decide +kernel) rfl (Or.inl rfl))
      (fun _ _ _=>pifs_one (pt_val (pe_dget hu (pv 1) (pv 0) (fun _ _=>rfl)) (fun _=>rfl)))
      (fun _ _ _=>pv 0)) pa_nil)))
   (pss_one (ps_ret (pe_callB call_sorted_ltL (by rfl) T.sorted boot_sorted (pa_cons (pe_lc ["places"] [0] rfl (compSc (osc:=(defScope sAll).names) (N:=nAC) rfl rfl (by decide +kernel)) (gk_name (by decide)) (pi_list (pv 3))
    (fun _ _ _=>pg_name (i:=0) (show (["places","web"]:List Str).Nodup by decide +kernel) rfl (Or.inl rfl))
    (fun _ _ _=>pifs_one (pt_chain op_le op_lt pe_int (pe_callB (r:=rLen K) call_len_seq (by rfl) T.len PySem.boot_len (pa_cons (pv 0) pa_nil)) (pe_callB (r:=rLen K) call_len_seq (by rfl) T.len PySem.boot_len (pa_cons (pe_meth0 (pv 1) M.wc.cl M.pM GP h1 M.pB .nil pass0) pa_nil))))
    (fun _ _ _=>pv 0)) pa_nil)))))),?_⟩
  have big:20000<=sizeLine:=by decide
  have nd:=g.good.nd
  have z6:(srt ns).length<=12:=by rw [srt_len];exact g.good.few
  intro d0 nd0
  have s0:=same_upd (o:=.dK []) nd0
  have hd0:=upd_same (H:=H) (a:=d0) (o:=.dK [])
  generalize upd H d0 (.dK [])=H0 at s0 hd0 ⊢
  refine ⟨(by show 1<=sizeLine;decide),fun l0 nl0=>?_⟩
  have s1:=s0.trans (same_upd (o:=.lst [V.ref d0]) nl0)
  have hl1:upd H0 l0 (.lst [V.ref d0]) l0=some (.lst ([d0].map V.ref)):=upd_same
  have hd1:=(same_upd (o:=.lst [V.ref d0]) nl0) _ _ hd0
  generalize upd H0 l0 (.lst [V.ref d0])=H1 at s1 hl1 hd1 ⊢
  obtain ⟨d2,f2,q2,r2⟩:=(W.same s1).meth "places"
  refine ⟨_,rfl,x,d2,f2,rfl,q2,r2,x,ns,ps,rfl,W.same s1,fun lp nlp=>?_⟩
  have sp:=same_upd (o:=.lst ((srt ns).map V.str)) nlp
  have hp:=upd_same (H:=H1) (a:=lp) (o:=.lst ((srt ns).map V.str))
  have s2:=s1.trans sp
  have hl2:=sp _ _ hl1
  have hd2:=sp _ _ hd1
  generalize upd H1 lp (.lst ((srt ns).map V.str))=H2 at sp hp s2 hl2 hd2 ⊢
  refine ⟨lp,rfl,⟨_,SqL.of hp⟩,for_list (K:=K) (xs:=(srt ns).map V.str) (fun i σ HH=>∃ l v2 v3 us fs,σ=[some (.ref x),some (.ref l),v2,v3]/\Same H HH/\HH lp=some (.lst ((srt ns).map V.str))/\HH l=some (.lst (us.map V.ref))/\StAt (12 * i) HH us fs/\Sts ns ps ((srt ns).take i) fs/\fs.length<=1024) ⟨l0,_,_,[d0],[fun _=>none],rfl,s2,hp,hl2,.cons ⟨[],hd2,Nat.le_refl _,Rep.nil⟩ .nil,Sts.start ns ps,(by simp)⟩ ?_ ?_ ?_⟩
  ·rintro i σ HH _ ⟨_,_,_,_,_,rfl,_,hp,_⟩
   exact SqL.of hp
  ·rintro i v σ HH hv ⟨l,v2,v3,us,fs,rfl,sH,hp,hl,hU,st,fl⟩
   have hi:=(List.getElem?_eq_some_iff.mp hv).1
   rw [List.length_map] at hi
   rw [List.getElem?_map] at hv
   obtain ⟨z,ez,rfl⟩:=Option.map_eq_some_iff.mp hv
   have hz:=srt_mem.mp (List.mem_of_getElem? ez)
   refine ⟨_,rfl,_,rfl,_,rfl,x,l,z,ns,ps,us,fs,12 * i,rfl,W.same sH,g,hz,hl,hU,by omega,by omega,fun q us' H3 nq hq hS s3=>?_⟩
   have st':=st.next g.ins hz
   have tk:(srt ns).take (i+1)=(srt ns).take i++[z]:=by rw [List.take_add_one,ez];rfl
   rw [<- tk] at st'
   have lus:=hS.len
   refine ⟨_,rfl,q,_,rfl,.inl (SqL.of hq),_,_,rfl,rfl,_,_,rfl,rfl,_,rfl,?_⟩
   rw [List.length_map]
   refine ite2 (fun c=>⟨(by decide),kX _ (fun cs me=>?_) (sH.trans s3)⟩) (fun c=>?_)
   ·have c':=of_decide_eq_true c
    have:=sts_many g.ins st' me
    omega
   ·have c':¬ _:=fun z=>c (decide_eq_true z)
    exact ⟨q,_,_,us',_,rfl,sH.trans s3,s3 _ _ hp,hq,hS,st',by omega⟩
  ·rintro σ HH ⟨l,v2,v3,us,fs,rfl,sH,hp,hl,hU,st,fl⟩
   rw [List.length_map,List.take_length] at st
   have lus:=hU.len
   obtain ⟨ndS,meS⟩:=full_sets nd g.ins st
   have tot:∀ f∈fs,∀ y∈ns,f y=some (tf f y):=fun f hf y hy=>by
    have:=st.dec f hf y (srt_mem.mpr hy)
    unfold tf
    cases e:f y with
    | none=>exact absurd e this
    | some b=>rfl
   refine ⟨_,rfl,l,rfl,⟨_,SqL.of hl⟩,lc_list (K:=K) (xs:=us.map V.ref) (fun i ys H3=>Same HH H3/\∃ qs:List (Addr × List Str),ys=qs.map (fun q=>V.ref q.1)/\Hold H3 qs/\qs.map (·.2)=(fs.take i).map (setOf (srt ns))) ⟨Same.refl _,[],rfl,(fun _ h=>nomatch h),rfl⟩ ?_ ?_ ?_ ?_⟩
   ·rintro i ys H3 hi ⟨_,qs,rfl,_,e⟩
    have:=congrArg List.length e
    rw [List.length_map,List.length_map,List.length_take] at this
    rw [List.length_map]
    omega
   ·rintro i ys H3 _ ⟨s3,_⟩
    exact SqL.of (s3 _ _ hl)
   ·rintro i v ys H3 R hv ⟨s3,qs,rfl,hold,eqs⟩ kR
    rw [List.getElem?_map] at hv
    obtain ⟨u,eu,rfl⟩:=Option.map_eq_some_iff.mp hv
    obtain ⟨f0,kvs,ef,hk,lk,rp⟩:=hU.get eu
    have hf0:=List.mem_of_getElem? ef
    simp only [gName,tYes,if_true]
    have sA:=sH.trans s3
    obtain ⟨d5,f5,q5,r5⟩:=(W.same sA).meth "places"
    refine ⟨_,rfl,x,d5,f5,rfl,q5,r5,x,ns,ps,rfl,W.same sA,fun lq nlq=>?_⟩
    have sq:=same_upd (o:=.lst ((srt ns).map V.str)) nlq
    have hq:=upd_same (H:=H3) (a:=lq) (o:=.lst ((srt ns).map V.str))
    generalize upd H3 lq (.lst ((srt ns).map V.str))=H4 at sq hq ⊢
    have hk4:=sq _ _ (s3 _ _ hk)
    refine ⟨lq,rfl,⟨_,SqL.of hq⟩,lc_list (K:=K) (xs:=(srt ns).map V.str) (fun m zs H5=>H5=H4/\zs=(setOf ((srt ns).take m) f0).map V.str) ⟨rfl,by simp [setOf]⟩ ?_ ?_ ?_ ?_⟩
    ·rintro m zs H5 hm ⟨_,rfl⟩
     rw [List.length_map]
     unfold setOf
     exact Nat.le_trans (List.length_filter_le _ _) (by rw [List.length_take];omega)
    ·rintro m zs H5 _ ⟨rfl,_⟩
     exact SqL.of hq
    ·rintro m v zs H5 R2 hv ⟨rfl,rfl⟩ kR2
     rw [List.getElem?_map] at hv
     obtain ⟨y,ey,rfl⟩:=Option.map_eq_some_iff.mp hv
     simp only [gName]
     have get:=DGet.k (k:=Sum.inr y) hk4
     rw [rp y,tot f0 hf0 y (srt_mem.mp (List.mem_of_getElem? ey))] at get
     refine ⟨_,rfl,_,rfl,u,_,rfl,get,_,rfl,?_⟩
     have fin:(setOf ((srt ns).take (m+1)) f0).map V.str=(setOf ((srt ns).take m) f0).map V.str++(if tf f0 y=true then [V.str y] else []):=by
      unfold setOf
      rw [List.take_add_one,ey,List.filter_append,List.map_append]
      congr 1
      rw [Option.toList_some,List.filter_cons]
      split<;>rfl
     refine ite2 (fun c=>⟨_,rfl,kR2 _ _ ⟨rfl,?_⟩⟩) (fun c=>kR2 _ _ ⟨rfl,?_⟩)
     ·rw [fin,if_pos c]
     ·rw [fin,if_neg c,List.append_nil]
    rintro zs H5 ⟨rfl,rfl⟩ D nD
    rw [List.length_map,List.take_length]
    have sD:=same_upd (o:=.lst ((setOf (srt ns) f0).map V.str)) nD
    have hD:=upd_same (H:=H5) (a:=D) (o:=.lst ((setOf (srt ns) f0).map V.str))
    generalize upd H5 D (.lst ((setOf (srt ns) f0).map V.str))=H6 at sD hD ⊢
    refine ⟨D,_,rfl,.inl ⟨SqL.of hD,fun t nt=>kR _ _ ⟨s3.trans (sq.trans (sD.trans (same_upd nt))),qs++[(t,setOf (srt ns) f0)],by simp,?_,?_⟩⟩⟩
    ·exact hold_snoc (hold_same (hold_same (hold_same hold sq) sD) (same_upd nt)) upd_same
    ·rw [List.map_append,eqs,List.take_add_one,ef,List.map_append]
     rfl
   rintro ys H3 ⟨s3,qs,rfl,hold,eqs⟩ D nD
   rw [List.length_map,lus,List.take_length] at eqs
   have sD:=same_upd (o:=.lst (qs.map fun q=>V.ref q.1)) nD
   have hD:=upd_same (H:=H3) (a:=D) (o:=.lst (qs.map fun q=>V.ref q.1))
   have hold4:=hold_same hold sD
   generalize upd H3 D (.lst (qs.map fun q=>V.ref q.1))=H4 at sD hD hold4 ⊢
   have s4:=sH.trans (s3.trans sD)
   have lqs:qs.length=fs.length:=by have:=congrArg List.length eqs;simpa using this
   refine ⟨_,rfl,D,rfl,⟨_,SqL.of hD⟩,lc_list (K:=K) (xs:=qs.map fun q=>V.ref q.1) (fun i ys H5=>Same H4 H5/\ys=((qs.take i).filter fun q=>decide (1<=q.2.length) && decide (q.2.length < ns.length)).map fun q=>V.ref q.1) ⟨Same.refl _,rfl⟩ ?_ ?_ ?_ ?_⟩
   ·rintro i ys H5 hi ⟨_,rfl⟩
    rw [List.length_map]
    exact Nat.le_trans (List.length_filter_le _ _) (by rw [List.length_take];omega)
   ·rintro i ys H5 _ ⟨s5,_⟩
    exact SqL.of (s5 _ _ hD)
   ·rintro i v ys H5 R hv ⟨s5,rfl⟩ kR
    rw [List.getElem?_map] at hv
    obtain ⟨q,eq,rfl⟩:=Option.map_eq_some_iff.mp hv
    have hq:=List.mem_of_getElem? eq
    have fin:((qs.take (i+1)).filter fun q=>decide (1<=q.2.length) && decide (q.2.length < ns.length)).map (fun q=>V.ref q.1)=((qs.take i).filter fun q=>decide (1<=q.2.length) && decide (q.2.length < ns.length)).map (fun q=>V.ref q.1)++(if (decide (1<=q.2.length) && decide (q.2.length < ns.length))=true then [V.ref q.1] else []):=by
     rw [List.take_add_one,eq,List.filter_append,List.map_append]
     congr 1
     rw [Option.toList_some,List.filter_cons]
     split<;>rfl
    simp only [gName]
    have h5:=s5 _ _ (hold4 q hq)
    refine ⟨_,rfl,q.1,_,rfl,.inr (SqT.of h5),_,_,rfl,rfl,_,rfl,?_⟩
    rw [List.length_map]
    refine ite2 (fun c1=>?_) (fun c1=>?_)
    ·have c1':1<=q.2.length:=by have:=of_decide_eq_true c1;omega
     have s45:=s4.trans s5
     obtain ⟨d6,f6,q6,r6⟩:=(W.same s45).meth "places"
     refine ⟨_,rfl,x,d6,f6,rfl,q6,r6,x,ns,ps,rfl,W.same s45,fun l6 nl6=>?_⟩
     have s6:=same_upd (o:=.lst ((srt ns).map V.str)) nl6
     refine ⟨l6,_,rfl,.inl (SqL.of upd_same),_,_,rfl,rfl,_,rfl,?_⟩
     rw [List.length_map,srt_len]
     refine ite2 (fun c2=>⟨_,rfl,kR _ _ ⟨s5.trans s6,?_⟩⟩) (fun c2=>kR _ _ ⟨s5.trans s6,?_⟩)
     ·have c2':q.2.length < ns.length:=by have:=of_decide_eq_true c2;omega
      rw [fin,if_pos (by simp [c1',c2'])]
     ·have c2':¬ q.2.length < ns.length:=fun h=>c2 (decide_eq_true (by omega))
      rw [fin,if_neg (by simp [c2']),List.append_nil]
    ·have c1':¬ 1<=q.2.length:=fun h=>c1 (decide_eq_true (by omega))
     refine ⟨_,rfl,iteF (kR _ _ ⟨s5,?_⟩)⟩
     rw [fin,if_neg (by rw [decide_eq_false c1'];simp),List.append_nil]
   rintro ys H5 ⟨s5,rfl⟩ D2 nD2
   rw [List.length_map,List.take_length]
   have sD2:=same_upd (o:=.lst ((qs.filter fun q=>decide (1<=q.2.length) && decide (q.2.length < ns.length)).map fun q=>V.ref q.1)) nD2
   have hold6:Hold (upd H5 D2 (.lst ((qs.filter fun q=>decide (1<=q.2.length) && decide (q.2.length < ns.length)).map fun q=>V.ref q.1))) (qs.filter fun q=>decide (1<=q.2.length) && decide (q.2.length < ns.length)):=fun q hq=>sD2 _ _ (s5 _ _ (hold4 q (List.mem_filter.mp hq).1))
   have emp:∃ q∈qs,q.2=[]:=by
    have:([]:List Str)∈fs.map (setOf (srt ns)):=(meS []).mpr ⟨by simp,fun p _ h=>nomatch h⟩
    rw [<- eqs] at this
    obtain ⟨q,hq,e⟩:=List.mem_map.mp this
    exact ⟨q,hq,e⟩
   have ful:∃ q∈qs,q.2=srt ns:=by
    have:srt ns∈fs.map (setOf (srt ns)):=(meS (srt ns)).mpr ⟨(List.filter_eq_self.mpr fun y hy=>decide_eq_true hy).symm,fun p hp _=>srt_mem.mpr (g.ins p hp).2⟩
    rw [<- eqs] at this
    obtain ⟨q,hq,e⟩:=List.mem_map.mp this
    exact ⟨q,hq,e⟩
   have le22:(qs.filter fun q=>decide (1<=q.2.length) && decide (q.2.length < ns.length)).length<=1022:=by
    obtain ⟨q0,h0,e0⟩:=emp
    obtain ⟨q1,h1,e1⟩:=ful
    have sum:=List.length_eq_countP_add_countP (fun q:Addr × List Str=>decide (1<=q.2.length) && decide (q.2.length < ns.length)) (l:=qs)
    rw [List.countP_eq_length_filter,List.countP_eq_length_filter] at sum
    have two:([q0,q1]:List (Addr × List Str)).length<=(qs.filter fun q=>decide (¬ (decide (1<=q.2.length) && decide (q.2.length < ns.length))=true)).length:=by
     refine List.Nodup.length_le_of_subset ?_ fun x hx=>?_
     ·refine List.nodup_cons.mpr ⟨fun z=>?_,List.nodup_cons.mpr ⟨(fun z=>nomatch z),List.nodup_nil⟩⟩
      have z:=List.mem_singleton.mp z
      have:=g.good.one
      have e2:(srt ns).length=0:=by rw [<- e1,<- z,e0];rfl
      rw [srt_len] at e2
      omega
     ·simp only [List.mem_cons,List.not_mem_nil,or_false] at hx
      rcases hx with rfl | rfl
      ·exact List.mem_filter.mpr ⟨h0,by rw [e0];rfl⟩
      ·exact List.mem_filter.mpr ⟨h1,by rw [e1,srt_len,decide_eq_false (Nat.lt_irrefl _),Bool.and_false];rfl⟩
    have l2:([q0,q1]:List (Addr × List Str)).length=2:=rfl
    omega
   have ndq:(qs.map (·.2)).Nodup:=by rw [eqs];exact ndS
   have s6:=s4.trans (s5.trans sD2)
   have memF:∀ X,X∈(qs.filter fun q=>decide (1<=q.2.length) && decide (q.2.length < ns.length)).map (·.2) ↔ CutX (srt ns) ps X:=fun X=>by
    constructor
    ·intro hX
     obtain ⟨q,hq,rfl⟩:=List.mem_map.mp hX
     obtain ⟨hq,c⟩:=List.mem_filter.mp hq
     rw [Bool.and_eq_true,decide_eq_true_iff,decide_eq_true_iff] at c
     have:=(meS q.2).mp (by rw [<- eqs];exact List.mem_map.mpr ⟨q,hq,rfl⟩)
     exact ⟨this.1,this.2,c.1,by rw [srt_len];exact c.2⟩
    ·intro c
     have:=(meS X).mpr ⟨c.eq,c.sh⟩
     rw [<- eqs] at this
     obtain ⟨q,hq,rfl⟩:=List.mem_map.mp this
     have l:=c.lt
     rw [srt_len] at l
     exact List.mem_map.mpr ⟨q,List.mem_filter.mpr ⟨hq,by rw [Bool.and_eq_true,decide_eq_true_iff,decide_eq_true_iff];exact ⟨c.one,l⟩⟩,rfl⟩
   have ndF:((qs.filter fun q=>decide (1<=q.2.length) && decide (q.2.length < ns.length)).map (·.2)).Nodup:=List.Pairwise.sublist (List.filter_sublist.map _) ndq
   have ne0:∀ q∈qs.filter (fun q=>decide (1<=q.2.length) && decide (q.2.length < ns.length)),q.2≠[]:=fun q hq e=>by
    have:=(List.mem_filter.mp hq).2
    rw [e] at this
    simp at this
   have hD6:=upd_same (H:=H5) (a:=D2) (o:=.lst ((qs.filter fun q=>decide (1<=q.2.length) && decide (q.2.length < ns.length)).map fun q=>V.ref q.1))
   generalize qs.filter (fun q=>decide (1<=q.2.length) && decide (q.2.length < ns.length))=ks at hold6 le22 s6 memF ndF ne0 hD6 ⊢
   generalize upd H5 D2 (.lst (ks.map fun q=>V.ref q.1))=H6 at hold6 s6 hD6 ⊢
   refine ⟨D2,ks,rfl,SqL.of hD6,hold6,ne0,Nat.le_trans le22 (by decide),fun q qs' nq pm up=>?_⟩
   have sQ:=same_upd (o:=.lst (qs'.map fun q=>V.ref q.1)) nq
   refine k q qs' _ (s6.free nq) upd_same (fun p hp=>sQ _ _ (hold6 p (pm.mem_iff.mp hp))) ⟨?_,fun X=>?_,?_,by rw [List.length_map,pm.length_eq];exact le22⟩ (s6.trans sQ)
   ·exact (pm.map (·.2)).nodup_iff.mpr ndF
   ·rw [(pm.map (·.2)).mem_iff];exact memF X
   ·exact List.pairwise_map.mpr up
end
end K22
namespace L2
open PySem PySem.Spec PyProof.Rows
section
variable {X:Cx}
theorem eqU_str {z y:Str} {t:Tok}:eqU (.str z) (.str y t)=decide (y=z):=by
 show (y == z)=decide (y=z)
 by_cases h:y=z
 ·simp [h]
 ·simp [h]
theorem idx_first {k:Str}:∀ {ns:List Str} {j:Nat},j < ns.idxOf k->∀ (h2:j < ns.length),ns[j]≠k
 | [],j,h,h2=>by simp at h2
 | n::ns,0,h,_=>fun e=>by
  rw [List.getElem_cons_zero] at e
  rw [e,List.idxOf_cons_self] at h
  omega
 | n::ns,j+1,h,h2=>by
  rw [List.getElem_cons_succ]
  refine idx_first ?_ _
  rw [List.idxOf_cons] at h
  cases hn:n == k with
  | true=>rw [hn] at h;simp at h
  | false=>rw [hn] at h;simp at h;omega
def rIndex (K:PySem.W.Frag):V->List V->Hp->VK->Prop:=fun x vs H Q=>∃ (l:Addr) (zs:List Str) (z:Str),x=.ref l/\vs=[.str z]/\SqL K H l (zs.map V.str)/\z∈zs/\zs.length<=1000/\Q (.int (zs.idxOf z:Nat)) H
theorem vals_strs:∀ {zs:List Str} {us:List Value},Vals (zs.map V.str) us->StrsAre us zs
 | [],_,.nil=>.nil
 | z::zs,_,.cons ⟨t,e⟩ r=>by subst e;exact .cons z t (vals_strs r)
theorem mt_index:MtR X "list.index" (rIndex X.K):=by
 intro pins s σ H x xs v us Q I rx r h
 obtain ⟨l,zs,z,rfl,rfl,hq,hz,small,q⟩:=h
 cases rx
 obtain ⟨u,rfl,⟨t,rfl⟩⟩:=vals1 r
 obtain ⟨its,rv,pl,_⟩:=I.list hq
 obtain ⟨⟨cls,dd,data,sl⟩,ho,hc,n,hd⟩:=pl.isList
 simp only at hc hd
 subst hc hd
 have hs:=vals_strs rv
 have hlen:its.length=zs.length:=strs_len hs
 have hj:zs.idxOf z < zs.length:=List.idxOf_lt_length_iff.mpr hz
 have at_:∀ (j:Nat) (h1:j < its.length) (h2:j < zs.length),eqU (.str z) its[j]=decide (zs[j]=z):=fun j h1 h2=>by
  obtain ⟨y,t',e1,e2⟩:=strs_at hs (List.getElem?_eq_getElem h1)
  rw [List.getElem?_eq_getElem h2] at e1
  cases e1
  rw [e2,eqU_str]
 refine call_meets PySem.F.slot_list_index ⟨_,ho,rfl⟩ PySem.F.entry_list_index (PySem.F.args_list_index_2 _ _)
  (SeqAt.list_indexAt l its.toArray n dd sl (.str z t) (eqU (.str z)) (zs.idxOf z) (by simpa [hlen] using hj) (by omega) ?_ ?_) ⟨ho,fun y hy=>mem_eqAt (x:=.str z) ⟨t,rfl⟩ rfl rv (flat_strs' zs) y (by simpa using hy),?_⟩
 ·show eqU (.str z) its[zs.idxOf z]=true
  rw [at_ _ (by omega) hj]
  simpa using List.getElem_idxOf hj
 ·intro j hjs hlt
  have hjs':j < its.length:=by simpa using hjs
  show eqU (.str z) its[j]=false
  rw [at_ j hjs' (by omega),decide_eq_false_iff_not]
  exact idx_first hlt _
 ·exact ⟨.int (zs.idxOf z:Nat),H,I.tok _,⟨_,rfl⟩,q⟩
theorem pe_bmK {K:PySem.W.Frag} {o e:Expr} {es:List Expr} {to:TE} {t:TA} {name:Str} {apos cpos:Pos} {T id:String} {r:V->List V->Hp->VK->Prop} (hK:X.K=K) (pa:PlainAttrs T) (slot:Slot T name id) (hty:typeOf (.builtin id)=pure (.type "method_descriptor")) (hm:MtR X id r) (ho:PE X o to) (ha:PA X (e::es) t)
  (hbase:attributeBase o name X.env (eval o X.env)=eval o X.env:=by rfl)
  (hfew:((backTo cpos (starEach (e::es) X.env)).all (fun x=>!x.1) && (backToKw cpos (keywordEach [] X.env)).all (fun x=>x.1.isSome)
   && decide ((e::es).length+([]:List Keyword).length+(if ([]:List Keyword).isEmpty then 0 else 1) < 30))=true:=by rfl)
  (hline:(apos.endLine == cpos.line)=true:=by rfl) (hs:starEach (e::es) X.env=(false,eval e X.env)::starEach es X.env:=by rfl) (hplain:(backTo cpos (starEach es X.env)).any (·.1)=false:=by rfl) :
  PE X (.Call (.Attribute o name apos) (e::es) [] cpos) (tBM K T r to t):=by
 subst hK
 exact pe_bm pa slot hty hm ho ha hbase hfew hline hs hplain
end
open PySem
theorem and1 (m k:Nat):Builtin.bitAnd ((m:Int) / 2 ^ ((k:Int).toNat)) 1=if m.testBit k then 1 else 0:=by
 have e:(m:Int) / 2 ^ ((k:Int).toNat)=((m / 2 ^ k:Nat):Int):=by
  rw [Int.toNat_natCast]
  norm_cast
 rw [e]
 unfold Builtin.bitAnd
 have h1:decide ((0:Int)<=((m / 2 ^ k:Nat):Int))=true:=decide_eq_true (Int.natCast_nonneg _)
 have h2:decide ((0:Int)<=1)=true:=by decide
 rw [h1,h2]
 show (((((m / 2 ^ k:Nat):Int)).toNat &&& (1:Int).toNat:Nat):Int)=_
 rw [Int.toNat_natCast]
 show (((m / 2 ^ k) &&& 1:Nat):Int)=_
 rw [Nat.and_one_is_mod,Nat.testBit_eq_decide_div_mod_eq]
 have:=Nat.mod_two_eq_zero_or_one (m / 2 ^ k)
 rcases this with h | h<;>simp [h]
def bitsOf:Nat->(Nat->Bool)->Nat
 | 0,_=>0
 | n+1,f=>2 * bitsOf n (fun i=>f (i+1))+(f 0).toNat
theorem bitsOf_test:∀ (n:Nat) (f:Nat->Bool) (k:Nat),(bitsOf n f).testBit k=(decide (k < n) && f k)
 | 0,f,k=>by simp [bitsOf]
 | n+1,f,0=>by
  unfold bitsOf
  rw [Nat.testBit_zero]
  cases f 0<;>simp<;>omega
 | n+1,f,k+1=>by
  unfold bitsOf
  rw [Nat.testBit_succ]
  have e:(2 * bitsOf n (fun i=>f (i+1))+(f 0).toNat) / 2=bitsOf n (fun i=>f (i+1)):=by
   cases f 0<;>simp<;>omega
  rw [e,bitsOf_test n _ k]
  simp
theorem bitsOf_lt:∀ (n:Nat) (f:Nat->Bool),bitsOf n f < 2 ^ n
 | 0,f=>by simp [bitsOf]
 | n+1,f=>by
  unfold bitsOf
  have:=bitsOf_lt n fun i=>f (i+1)
  rw [Nat.pow_succ]
  cases f 0<;>simp<;>omega
def sel (zs:List Str) (m:Nat):List Str:=zs.filter fun z=>m.testBit (zs.idxOf z)
theorem mask_some {m n:Nat} (h0:m≠0) (h:m < 2 ^ n):∃ k,k < n/\m.testBit k=true:=by
 obtain ⟨k,hk⟩:=Nat.exists_testBit_of_ne_zero h0
 refine ⟨k,?_,hk⟩
 rcases Nat.lt_or_ge k n with q | q
 ·exact q
 ·have:=Nat.ge_two_pow_of_testBit hk
  have:=Nat.pow_le_pow_right (show 0 < 2 by decide) q
  omega
theorem mask_none {m n:Nat} (h0:m≠2 ^ n - 1) (h:m < 2 ^ n):∃ k,k < n/\m.testBit k=false:=by
 obtain ⟨k,hk⟩:=Nat.exists_testBit_ne_of_ne h0
 rw [Nat.testBit_two_pow_sub_one] at hk
 rcases Nat.lt_or_ge k n with q | q
 ·refine ⟨k,q,?_⟩
  simp [q] at hk
  exact hk
 ·have:m.testBit k=false:=Nat.testBit_lt_two_pow (Nat.lt_of_lt_of_le h (Nat.pow_le_pow_right (by decide) q))
  simp [this] at hk
  omega
theorem masks_all {zs:List Str} (nd:zs.Nodup) (P:Str->Bool) (h1:∃ z∈zs,P z=true) (h2:∃ z∈zs,P z=false):∃ m,1<=m/\m < 2 ^ zs.length - 1/\∀ z∈zs,m.testBit (zs.idxOf z)=P z:=by
 refine ⟨bitsOf zs.length fun k=>P (zs.getD k (⟨#[]⟩:Str)),?_⟩
 have hb:∀ z∈zs,(bitsOf zs.length fun k=>P (zs.getD k (⟨#[]⟩:Str))).testBit (zs.idxOf z)=P z:=fun z hz=>by
  have hk:zs.idxOf z < zs.length:=List.idxOf_lt_length_iff.mpr hz
  rw [bitsOf_test,decide_eq_true hk,Bool.true_and]
  congr 1
  rw [List.getD,List.getElem?_eq_getElem hk,Option.getD_some]
  simpa using List.getElem_idxOf hk
 have lt:=bitsOf_lt zs.length fun k=>P (zs.getD k (⟨#[]⟩:Str))
 generalize (bitsOf zs.length fun k=>P (zs.getD k (⟨#[]⟩:Str)))=m at hb lt
 refine ⟨?_,?_,hb⟩
 ·obtain ⟨z,hz,e⟩:=h1
  rcases Nat.eq_zero_or_pos m with q | q
  ·have:=hb z hz
   rw [q,e] at this
   simp at this
  ·exact q
 ·obtain ⟨z,hz,e⟩:=h2
  rcases Nat.lt_or_ge m (2 ^ zs.length - 1) with q | q
  ·exact q
  ·have:m=2 ^ zs.length - 1:=by omega
   have h:=hb z hz
   rw [this,Nat.testBit_two_pow_sub_one,e] at h
   have hk:zs.idxOf z < zs.length:=List.idxOf_lt_length_iff.mpr hz
   simp [hk] at h
end L2
namespace K22
open PySem PySem.Spec PyProof.Rows L2 L3
abbrev sCuts:Stmt:=top 45 -- _law_cuts
def IsCut (zs:List Str) (ps:List (Str × Str)) (c:List Str):Prop:=∃ P:Str->Bool,c=zs.filter P/\(∀ p∈ps,P p.1=true->P p.2=true)/\(∃ z∈zs,P z=true)/\(∃ z∈zs,P z=false)
def bt (zs:List Str) (m:Nat) (z:Str):Bool:=m.testBit (zs.idxOf z)
def okM (zs:List Str) (ps:List (Str × Str)) (m:Nat):Prop:=∀ p∈ps,bt zs m p.1=true->bt zs m p.2=true
theorem idx_at {zs:List Str} (nd:zs.Nodup) {k:Nat} (h:k < zs.length):zs.idxOf zs[k]=k:=by
 have h1:zs.idxOf zs[k] < zs.length:=List.idxOf_lt_length_iff.mpr (List.getElem_mem h)
 have h2:zs[zs.idxOf zs[k]]=zs[k]:=by simpa using List.getElem_idxOf h1
 exact (List.getElem_inj nd).mp h2
theorem cut_of_mask {zs:List Str} {ps:List (Str × Str)} (nd:zs.Nodup) {m:Nat} (h1:1<=m) (h2:m < 2 ^ zs.length - 1) (ok:okM zs ps m):IsCut zs ps (sel zs m):=by
 refine ⟨bt zs m,rfl,ok,?_,?_⟩
 ·obtain ⟨k,hk,e⟩:=mask_some (m:=m) (n:=zs.length) (by omega) (by omega)
  exact ⟨zs[k],List.getElem_mem hk,by unfold bt;rw [idx_at nd hk];exact e⟩
 ·obtain ⟨k,hk,e⟩:=mask_none (m:=m) (n:=zs.length) (by omega) (by omega)
  exact ⟨zs[k],List.getElem_mem hk,by unfold bt;rw [idx_at nd hk];exact e⟩
theorem mask_of_cut {zs:List Str} {ps:List (Str × Str)} {c:List Str} (nd:zs.Nodup) (hi:InP zs ps) (h:IsCut zs ps c):∃ m,1<=m/\m < 2 ^ zs.length - 1/\okM zs ps m/\c=sel zs m:=by
 obtain ⟨P,rfl,cl,y,n⟩:=h
 obtain ⟨m,m1,m2,e⟩:=masks_all nd P y n
 refine ⟨m,m1,m2,fun p hp h=>?_,?_⟩
 ·have q:=hi p hp
  unfold bt at h ⊢
  rw [e _ q.1] at h
  rw [e _ q.2]
  exact cl p hp h
 ·exact List.filter_congr fun z hz=>(e z hz).symm
theorem cutX_iff {zs:List Str} {ps:List (Str × Str)} (hi:InP zs ps) (c:List Str):IsCut zs ps c ↔ CutX zs ps c:=by
 constructor
 ·rintro ⟨P,rfl,cl,⟨y,hy,ey⟩,⟨n,hn,en⟩⟩
  refine ⟨List.filter_congr fun z hz=>?_,fun p hp h=>?_,?_,?_⟩
  ·rw [Bool.eq_iff_iff,decide_eq_true_iff,List.mem_filter]
   exact ⟨fun e=>⟨hz,e⟩,fun e=>e.2⟩
  ·exact List.mem_filter.mpr ⟨(hi p hp).2,cl p hp (List.mem_filter.mp h).2⟩
  ·exact List.length_pos_iff.mpr (List.ne_nil_of_mem (List.mem_filter.mpr ⟨hy,ey⟩))
  ·exact List.length_filter_lt_length_iff_exists.mpr ⟨n,hn,by rw [en];exact Bool.false_ne_true⟩
 ·intro h
  refine ⟨fun z=>decide (z∈c),h.eq,fun p hp e=>decide_eq_true (h.sh p hp (of_decide_eq_true e)),?_,?_⟩
  ·obtain ⟨y,hy⟩:=List.exists_mem_of_length_pos h.one
   have:y∈zs:=by rw [h.eq] at hy;exact (List.mem_filter.mp hy).1
   exact ⟨y,this,decide_eq_true hy⟩
  ·have l:=h.lt
   rw [h.eq] at l
   obtain ⟨n,hn,e⟩:=List.length_filter_lt_length_iff_exists.mp l
   exact ⟨n,hn,by simpa using e⟩
theorem sel_inj {zs:List Str} (nd:zs.Nodup) {m n:Nat} (hm:m < 2 ^ zs.length) (hn:n < 2 ^ zs.length) (h:sel zs m=sel zs n):m=n:=by
 apply Nat.eq_of_testBit_eq
 intro k
 rcases Nat.lt_or_ge k zs.length with q | q
 ·have e:zs[k]∈sel zs m ↔ zs[k]∈sel zs n:=by rw [h]
  unfold sel at e
  rw [List.mem_filter,List.mem_filter,idx_at nd q] at e
  have mk:=List.getElem_mem q
  rw [Bool.eq_iff_iff]
  exact ⟨fun z=>(e.mp ⟨mk,z⟩).2,fun z=>(e.mpr ⟨mk,z⟩).2⟩
 ·have p:=Nat.pow_le_pow_right (show 0 < 2 by decide) q
  rw [Nat.testBit_lt_two_pow (by omega),Nat.testBit_lt_two_pow (by omega)]
structure CutsD (zs:List Str) (ps:List (Str × Str)) (cs:List (List Str)):Prop where
 nd:cs.Nodup
 me:∀ X,X∈cs ↔ CutX zs ps X
 up:cs.Pairwise fun a b=>ltT b a=false
def PairsAt (H:Hp) (us:List Addr) (zs:List Str) (ps:List (Str × Str)):Prop:=us.length=ps.length/\∀ (i:Nat) u p,us[i]?=some u->ps[i]?=some p->H u=some (.tup [.int (zs.idxOf p.1:Nat),.int (zs.idxOf p.2:Nat)])
theorem PairsAt.same {H H':Hp} {us:List Addr} {zs:List Str} {ps:List (Str × Str)} (h:PairsAt H us zs ps) (s:Same H H'):PairsAt H' us zs ps:=⟨h.1,fun i u p e1 e2=>s _ _ (h.2 i u p e1 e2)⟩
theorem PairsAt.snoc {H:Hp} {us:List Addr} {zs:List Str} {ps:List (Str × Str)} {u:Addr} {p:Str × Str} (h:PairsAt H us zs ps) (hu:H u=some (.tup [.int (zs.idxOf p.1:Nat),.int (zs.idxOf p.2:Nat)])):PairsAt H (us++[u]) zs (ps++[p]):=by
 refine ⟨by simp [h.1],fun i u' p' e1 e2=>?_⟩
 by_cases hi:i < us.length
 ·rw [List.getElem?_append_left hi] at e1
  rw [List.getElem?_append_left (by rw [<- h.1];exact hi)] at e2
  exact h.2 i u' p' e1 e2
 ·rw [List.getElem?_append_right (by omega)] at e1
  rw [List.getElem?_append_right (by have:=h.1;omega)] at e2
  have hz:i - us.length=0:=by
   rcases Nat.eq_zero_or_pos (i - us.length) with q | q
   ·exact q
   ·rw [List.getElem?_eq_none (by simp;omega)] at e1;cases e1
  rw [hz] at e1
  rw [<- h.1,hz] at e2
  cases e1
  cases e2
  exact hu
theorem PairsAt.get {H:Hp} {us:List Addr} {zs:List Str} {ps:List (Str × Str)} (h:PairsAt H us zs ps) {i:Nat} {u:Addr} (e:us[i]?=some u):∃ p,ps[i]?=some p/\H u=some (.tup [.int (zs.idxOf p.1:Nat),.int (zs.idxOf p.2:Nat)]):=by
 have hi:i < ps.length:=by rw [<- h.1];exact (List.getElem?_eq_some_iff.mp e).1
 exact ⟨ps[i],List.getElem?_eq_getElem hi,h.2 i u _ e (List.getElem?_eq_getElem hi)⟩
theorem bit_val (m k:Nat):V.int (Builtin.bitAnd ((m:Int) / 2 ^ ((k:Int).toNat)) 1)=V.int (if m.testBit k then 1 else 0):=by rw [and1]
section
variable {P:Program} {w:World} {K:PySem.W.Frag} {mg:Str->Option Value} {base:Heap}
def spCuts:Sp:=fun vs H Q _=>∃ (a b:Addr) (ns:List Str) (ts:List Addr) (ps:List (Str × Str)),vs=[.ref a,.ref b]/\Lists H a b ns ps ts /\
 ∀ (l:Addr) (qs:List (Addr × List Str)) (H':Hp),H l=none->H' l=some (.lst (qs.map fun q=>V.ref q.1))->Hold H' qs->CutsD (srt ns) ps (qs.map (·.2))->qs.length<=4094->Same H H'->Q (.ref l) H'
abbrev nCu:List Str:=["_law_names_here","_law_ties","_law_places","_law_pairs","_law_found","_law_mask"]
theorem scCu:FnScope nCu ["_law_names_here","_law_ties"] (defScope sCuts):=⟨rfl,rfl,rfl,by decide +kernel,rfl,by decide +kernel,by decide +kernel⟩
theorem ok_cuts {f:Addr} {fd:FuncData} (F:Fun K "_law_cuts" "_law_cuts" sCuts f fd) (T:Glb mg):FnOk P w K mg base CX0 1 f fd ["_law_names_here","_law_ties"] spCuts:=by
 refine F.ok scCu (fun vs H Q E h=>?_) (fun cdv A outer s H vs Q E hr h=>?_)
 ·obtain ⟨a,b,ns,ts,ps,rfl,_⟩:=h
  rfl
 ·obtain ⟨a,b,ns,ts,ps,rfl,L,k⟩:=h
  refine ⟨_,pss_cons (ps_set (i:=2) scCu.nd rfl (Or.inr rfl) (pe_callB call_sorted_txt (by rfl) T.sorted boot_sorted (pa_cons (pv 0) pa_nil)))
   (pss_cons (ps_setL (i:=3) ["_law_a","_law_b"] [2] scCu.nd rfl rfl rfl (compSc (osc:=(defScope sCuts).names) (N:=nCu) rfl rfl (by decide +kernel)) (gk_two (k:=2) (by decide) (by decide)) (pi_list (pv 1))
     (fun _ _ _=>pg_tup (n:=2) rfl (pgs_cons (pg_name (i:=0) (show (["_law_a","_law_b","_law_places"]:List Str).Nodup by decide +kernel) rfl (Or.inl rfl)) (pgs_cons (pg_name (i:=1) (show (["_law_a","_law_b","_law_places"]:List Str).Nodup by decide +kernel) rfl (Or.inl rfl)) pgs_nil))) (fun _ _ _=>pifs_nil)
     (fun _ _ _=>pe_tup (pa_cons (pe_bmK (K:=K) (r:=rIndex K) rfl PySem.F.plainAttrs_list PySem.F.slot_list_index PySem.F.type_list_index mt_index (pv 2) (pa_cons (pv 0) pa_nil)) (pa_cons (pe_bmK (K:=K) (r:=rIndex K) rfl PySem.F.plainAttrs_list PySem.F.slot_list_index PySem.F.type_list_index mt_index (pv 2) (pa_cons (pv 1) pa_nil)) pa_nil))))
   (pss_cons (ps_set (i:=4) scCu.nd rfl (Or.inl rfl) (pe_lst pa_nil))
   (pss_cons (ps_for PassesOwn.never rfl (pi_range2 rfl T.range (pa_cons pe_int (pa_cons (pe_op op_sub (pe_op op_shl pe_int (pe_callB call_len_seq (by rfl) T.len PySem.boot_len (pa_cons (pv 2) pa_nil))) pe_int) pa_nil))) (pg_name (i:=5) scCu.nd rfl (Or.inr rfl))
    (pss_one (ps_if (pt_cmpR (op_eq_nil (low 0 hr)) (pe_lc ["_law_a","_law_b"] [5] rfl (compSc (osc:=(defScope sCuts).names) (N:=nCu) rfl rfl (by decide +kernel)) (gk_two (k:=2) (by decide) (by decide)) (pi_list (pv 3))
       (fun _ _ _=>pg_tup (n:=2) rfl (pgs_cons (pg_name (i:=0) (show (["_law_a","_law_b","_law_mask"]:List Str).Nodup by decide +kernel) rfl (Or.inl rfl)) (pgs_cons (pg_name (i:=1) (show (["_law_a","_law_b","_law_mask"]:List Str).Nodup by decide +kernel) rfl (Or.inl rfl)) pgs_nil)))
       (fun _ _ _=>pifs_one (PW.pt (pw_and (pt_cmpR op_eq (pe_op op_and (pe_op op_shr (pv 2) (pv 0)) pe_int) pe_int (nomark _)) (pw_and1 (pt_cmpR op_eq (pe_op op_and (pe_op op_shr (pv 2) (pv 1)) pe_int) pe_int (nomark _))))))
       (fun _ _ _=>pe_int)) (pe_lst pa_nil) (nomark _))
     (pss_one (ps_expr (pe_bm PySem.F.plainAttrs_list PySem.F.slot_list_append PySem.F.type_list_append mt_append (pv 4) (pa_cons (pe_callTy call_tuple_of (by rfl) T.tuple PyProof.Rows.boot_tuple (pa_cons
      (pe_lc ["_law_k"] [5,2] rfl (compSc (osc:=(defScope sCuts).names) (N:=nCu) rfl rfl (by decide +kernel)) (gk_name (by decide)) (pi_range1 rfl T.range (pa_cons (pe_callB call_len_seq (by rfl) T.len PySem.boot_len (pa_cons (pv 2) pa_nil)) pa_nil))
       (fun _ _ _=>pg_name (i:=0) (show (["_law_k","_law_mask","_law_places"]:List Str).Nodup by decide +kernel) rfl (Or.inl rfl)) (fun _ _ _=>pifs_one (pt_cmpR op_eq (pe_op op_and (pe_op op_shr (pv 1) (pv 0)) pe_int) pe_int (nomark _)))
       (fun _ _ _=>pe_ix (r:=rIxL K) ix_list (pv 2) (pv 0) (fun _ _=>rfl))) pa_nil)) pa_nil)))) pss_nil)))
   (pss_one (ps_ret (pe_callB call_sorted_ltL (by rfl) T.sorted boot_sorted (pa_cons (pv 4) pa_nil))))))),?_⟩
  refine ⟨_,rfl,a,ns,rfl,SqL.of L.ha,Nat.lt_of_le_of_lt L.good.few (by decide),fun pl hpl=>?_⟩
  have s1:=same_upd (o:=.lst ((srt ns).map V.str)) hpl
  have k1:=upd_same (H:=H) (a:=pl) (o:=.lst ((srt ns).map V.str))
  generalize upd H pl (.lst ((srt ns).map V.str))=H1 at s1 k1 ⊢
  have L1:=L.same s1
  have nd:(srt ns).Nodup:=srt_nd L.good.nd
  have ins:InP (srt ns) ps:=fun p hp=>⟨srt_mem.mpr (L.ins p hp).1,srt_mem.mpr (L.ins p hp).2⟩
  have ln:(srt ns).length=ns.length:=srt_len ns
  generalize srt ns=zs at nd ins ln k1 k ⊢
  have le:(ts.map V.ref).length=ps.length:=by rw [List.length_map,L.hT.len]
  have lz:zs.length<=12:=by have:=L.good.few;omega
  have few:=L.few
  refine ⟨_,rfl,b,rfl,⟨_,SqL.of L1.hb⟩,lc_list (K:=K) (xs:=ts.map V.ref) (fun i ys H5=>Same H1 H5/\∃ us:List Addr,ys=us.map V.ref/\us.length=i/\PairsAt H5 us zs (ps.take i)) ⟨Same.refl _,[],rfl,rfl,rfl,(fun i u p e=>by simp at e)⟩ ?_ ?_ ?_ ?_⟩
  ·rintro i ys H5 hi ⟨_,us,rfl,e,_⟩
   rw [List.length_map,e]
   rw [le] at hi
   exact Nat.le_trans hi (Nat.le_trans few (by decide))
  ·rintro i ys H5 _ ⟨s5,_⟩
   exact SqL.of (s5 _ _ L1.hb)
  ·rintro i y ys H5 R hy ⟨s5,us,rfl,e,hU⟩ kR
   rw [List.getElem?_map] at hy
   obtain ⟨t,et,rfl⟩:=Option.map_eq_some_iff.mp hy
   obtain ⟨p,ep,ht⟩:=L1.hT.get et
   have hp:=ins p (List.mem_of_getElem? ep)
   refine ⟨t,_,rfl,SqT.of (s5 _ _ ht),rfl,_,_,rfl,_,_,rfl,rfl,?_⟩
   simp only [tYes,if_true]
   have kz:=s5 _ _ k1
   refine ⟨_,rfl,.inl ⟨rfl,_,SqL.of kz⟩,_,rfl,pl,zs,p.1,rfl,rfl,SqL.of kz,hp.1,by omega,_,rfl,.inl ⟨rfl,_,SqL.of kz⟩,_,rfl,pl,zs,p.2,rfl,rfl,SqL.of kz,hp.2,by omega,(by show 2<=sizeLine;decide),fun u hu=>?_⟩
   have e2:us.map V.ref++[V.ref u]=(us++[u]).map V.ref:=by simp
   refine kR _ _ ⟨s5.trans (same_upd hu),us++[u],e2,by simp [e],?_⟩
   rw [List.take_add_one,ep]
   exact PairsAt.snoc (hU.same (same_upd hu)) upd_same
  rintro ys H5 ⟨s5,us,rfl,e,hU⟩ pr hpr
  rw [le,List.take_length] at hU
  have s6:=s5.trans (same_upd (o:=.lst (us.map V.ref)) hpr)
  have k6:=upd_same (H:=H5) (a:=pr) (o:=.lst (us.map V.ref))
  have U6:=hU.same (same_upd (o:=.lst (us.map V.ref)) hpr)
  generalize upd H5 pr (.lst (us.map V.ref))=H6 at s6 k6 U6 ⊢
  have lu:(us.map V.ref).length=ps.length:=by rw [List.length_map,U6.1]
  refine ⟨(by decide),fun fo hfo=>?_⟩
  have s7:=s6.trans (same_upd (o:=.lst []) hfo)
  have f0:H fo=none:=(s1.trans s6).free hfo
  have n1:H1 fo=none:=s6.free hfo
  have pw:1<=2 ^ zs.length:=Nat.one_le_two_pow
  have pw7:2 ^ zs.length<=4096:=Nat.le_trans (Nat.pow_le_pow_right (by decide) lz) (by decide)
  have lzm:((zs.map V.str).length:Int)=zs.length:=by rw [List.length_map]
  have eR:((1:Int) * 2 ^ (((zs.map V.str).length:Int)).toNat)=((2 ^ zs.length:Nat):Int):=by
   rw [lzm,Int.toNat_natCast,Int.one_mul]
   norm_cast
  refine ⟨_,rfl,pl,_,rfl,.inl (SqL.of (s7 _ _ k1)),_,_,rfl,rfl,⟨by omega,by omega,by decide⟩,_,_,rfl,rfl,_,_,rfl,⟨by decide,by decide,by rw [eR];omega,by rw [eR];omega⟩,?_⟩
  have eN:((1:Int) * 2 ^ (((zs.map V.str).length:Int)).toNat - 1 - 1).toNat=2 ^ zs.length - 2:=by rw [eR];omega
  rw [eN]
  refine for_range (fun i σ H2=>∃ (v5:Option V) (qs:List (Addr × List Str)),σ=[some (.ref a),some (.ref b),some (.ref pl),some (.ref pr),some (.ref fo),v5]/\Same H6 H2/\H2 fo=some (.lst (qs.map fun q=>V.ref q.1))/\Hold H2 qs/\(qs.map (·.2)).Nodup/\qs.length<=i/\∀ c,c∈qs.map (·.2) ↔ ∃ m,1<=m/\m < 1+i/\okM zs ps m/\c=sel zs m)
   ⟨_,[],rfl,same_upd hfo,upd_same,(fun _ h=>nomatch h),List.nodup_nil,Nat.le_refl _,fun c=>⟨(fun q=>nomatch q),fun ⟨m,q1,q2,_⟩=>by omega⟩⟩ ?_ ?_
  ·rintro i σ H2 hi ⟨v5,qs,rfl,s2,h2,T2,ndq,lc,mem⟩
   have em:((1:Int)+(i:Int))=((1+i:Nat):Int):=by omega
   rw [em]
   generalize hm:1+i=m
   have U2:=U6.same s2
   have kp2:=s2 _ _ k6
   refine ⟨_,rfl,pr,rfl,⟨_,SqL.of kp2⟩,lc_list (K:=K) (xs:=us.map V.ref) (fun j ys H5=>H5=H2/\ys.length<=j/\(ys=[] ↔ ∀ p∈ps.take j,bt zs m p.1=true->bt zs m p.2=true)) ⟨rfl,Nat.le_refl _,⟨fun _ p hp=>by simp at hp,fun _=>rfl⟩⟩ ?_ ?_ ?_ ?_⟩
   ·rintro j ys H5 hj ⟨_,l,_⟩
    rw [lu] at hj
    exact Nat.le_trans l (Nat.le_trans hj (Nat.le_trans few (by decide)))
   ·rintro j ys H5 _ ⟨rfl,_⟩
    exact SqL.of kp2
   ·rintro j y ys H5 R hy ⟨rfl,ly,no⟩ kR
    rw [List.getElem?_map] at hy
    obtain ⟨u,eu,rfl⟩:=Option.map_eq_some_iff.mp hy
    obtain ⟨p,ep,hu⟩:=U2.get eu
    have et:ps.take (j+1)=ps.take j++[p]:=by rw [List.take_add_one,ep];rfl
    refine ⟨u,_,rfl,SqT.of hu,rfl,_,_,rfl,_,_,rfl,rfl,?_⟩
    refine ⟨_,rfl,_,rfl,_,_,rfl,rfl,(by show (0:Int)<=_;omega),_,_,rfl,rfl,?_⟩
    dsimp only
    rw [bit_val]
    refine ⟨rfl,_,rfl,?_⟩
    by_cases h1:bt zs m p.1=true
    ·have h1':m.testBit (zs.idxOf p.1)=true:=h1
     rw [h1',if_pos rfl,decide_eq_true (rfl:V.int 1=V.int 1)]
     refine iteT ⟨_,rfl,_,rfl,_,_,rfl,rfl,(by show (0:Int)<=_;omega),_,_,rfl,rfl,?_⟩
     dsimp only
     rw [bit_val]
     refine ⟨rfl,_,rfl,?_⟩
     by_cases h2':bt zs m p.2=true
     ·have h2'':m.testBit (zs.idxOf p.2)=true:=h2'
      rw [h2'',if_pos rfl,decide_eq_false (show ¬ (V.int 1=V.int 0) from fun z=>by injection z with z;omega)]
      refine iteF (kR _ _ ⟨rfl,Nat.le_succ_of_le ly,no.trans ?_⟩)
      rw [et]
      exact ⟨fun q p' hp'=>(List.mem_append.mp hp').elim (q p') fun z=>by rw [List.mem_singleton.mp z];exact fun _=>h2',fun q p' hp'=>q p' (List.mem_append_left _ hp')⟩
     ·have h2'':m.testBit (zs.idxOf p.2)=false:=Bool.eq_false_iff.mpr h2'
      rw [h2'',if_neg Bool.false_ne_true,decide_eq_true (rfl:V.int 0=V.int 0)]
      refine iteT (kR _ _ ⟨rfl,by simp;omega,⟨fun z=>by simp at z,fun q=>?_⟩⟩)
      exact absurd (q p (by rw [et];exact List.mem_append_right _ (List.mem_singleton.mpr rfl)) h1) h2'
    ·have h1':m.testBit (zs.idxOf p.1)=false:=Bool.eq_false_iff.mpr h1
     rw [h1',if_neg Bool.false_ne_true,decide_eq_false (show ¬ (V.int 0=V.int 1) from fun z=>by injection z with z;omega)]
     refine iteF (kR _ _ ⟨rfl,Nat.le_succ_of_le ly,no.trans ?_⟩)
     rw [et]
     exact ⟨fun q p' hp'=>(List.mem_append.mp hp').elim (q p') fun z=>by rw [List.mem_singleton.mp z];exact fun z=>absurd z h1,fun q p' hp'=>q p' (List.mem_append_left _ hp')⟩
   rintro ys H5 ⟨rfl,ly,no⟩ D1 hD1
   rw [lu,List.take_length] at no
   have t1:=same_upd (o:=.lst ys) hD1
   have q1:=upd_same (H:=H5) (a:=D1) (o:=.lst ys)
   generalize upd H5 D1 (.lst ys)=H8 at t1 q1 ⊢
   refine ⟨(by decide),fun D2 hD2=>?_⟩
   have t2:=t1.trans (same_upd (o:=.lst []) hD2)
   refine ⟨D1,D2,ys,rfl,rfl,SqL.of (same_upd hD2 _ _ q1),SqL.of upd_same,_,rfl,?_⟩
   generalize upd H8 D2 (.lst [])=H9 at t2 ⊢
   have s9:=s2.trans t2
   have h9:=t2 _ _ h2
   have T9:=hold_same T2 t2
   by_cases hy:ys=[]
   ·rw [decide_eq_true hy]
    have okm:okM zs ps m:=no.mp hy
    refine iteT ⟨_,rfl,.inl ⟨rfl,_,SqL.of h9⟩,_,rfl,pl,_,rfl,.inl (SqL.of (s9 _ _ (s6 _ _ k1))),_,rfl,by omega,by rw [lzm];omega,?_⟩
    have en:(((zs.map V.str).length:Int)).toNat=zs.length:=by rw [lzm,Int.toNat_natCast]
    rw [en]
    refine lc_range (fun j ys H5=>H5=H9/\ys=((zs.take j).filter (bt zs m)).map V.str) ⟨rfl,rfl⟩ ?_ ?_ ?_
    ·rintro j ys H5 hj ⟨_,rfl⟩
     rw [List.length_map]
     refine Nat.le_trans (List.length_filter_le _ _) ?_
     rw [List.length_take]
     exact Nat.le_trans (Nat.min_le_right _ _) (Nat.le_trans lz (by decide))
    ·rintro j ys H5 R hj ⟨rfl,rfl⟩ kR
     simp only [gName]
     rw [Int.zero_add]
     refine ⟨_,rfl,_,rfl,_,_,rfl,rfl,(by show (0:Int)<=_;omega),_,_,rfl,rfl,?_⟩
     dsimp only
     rw [bit_val]
     refine ⟨rfl,_,rfl,?_⟩
     have et:(zs.take (j+1)).filter (bt zs m)=(zs.take j).filter (bt zs m)++(if m.testBit j then [zs[j]] else []):=by
      rw [List.take_add_one,List.getElem?_eq_getElem hj,List.filter_append]
      have:bt zs m zs[j]=m.testBit j:=by unfold bt;rw [idx_at nd hj]
      cases hb:m.testBit j<;>simp [this,hb]
     by_cases hb:m.testBit j=true
     ·rw [hb,if_pos rfl,decide_eq_true (rfl:V.int 1=V.int 1)]
      rw [hb,if_pos rfl] at et
      refine iteT ⟨_,rfl,_,rfl,pl,_,_,_,rfl,rfl,SqL.of (s9 _ _ (s6 _ _ k1)),atI_nat (j:=j) (v:=.str zs[j]) (by simp [hj]),kR _ _ ⟨rfl,?_⟩⟩
      rw [et];simp
     ·have hb':m.testBit j=false:=by simpa using hb
      rw [hb',if_neg Bool.false_ne_true,decide_eq_false (show ¬ (V.int 0=V.int 1) from fun z=>by injection z with z;omega)]
      rw [hb',if_neg Bool.false_ne_true] at et
      refine iteF (kR _ _ ⟨rfl,?_⟩)
      rw [et];simp
    ·rintro ys2 H5 ⟨rfl,rfl⟩ D3 hD3
     rw [List.take_length]
     have t3:=same_upd (o:=.lst ((zs.filter (bt zs m)).map V.str)) hD3
     refine ⟨D3,_,rfl,.inl ⟨SqL.of upd_same,fun tp htp=>?_⟩⟩
     have t4:=t3.trans (same_upd (o:=.tup ((zs.filter (bt zs m)).map V.str)) htp)
     have q4:=upd_same (H:=upd H5 D3 (.lst ((zs.filter (bt zs m)).map V.str))) (a:=tp) (o:=.tup ((zs.filter (bt zs m)).map V.str))
     generalize upd (upd H5 D3 (.lst ((zs.filter (bt zs m)).map V.str))) tp (.tup ((zs.filter (bt zs m)).map V.str))=H10 at t4 q4 ⊢
     have h10:=t4 _ _ h9
     refine ⟨fo,_,_,rfl,rfl,h10,(by rw [List.length_map];exact Nat.lt_of_lt_of_le (show qs.length < 10000 by omega) (by decide)),?_⟩
     have nft:tp≠fo:=ne_of q4 h10 (by intro z;cases z)
     refine ⟨_,qs++[(tp,sel zs m)],rfl,Same.upd_new (s9.trans t4) hfo,by rw [upd_same];simp,?_,?_,by simp;omega,fun c=>?_⟩
     ·refine hold_snoc (fun q hq=>?_) ?_
      ·have:=t4 _ _ (T9 q hq)
       rw [L2.upd_ne (ne_of this h10 (by intro z;cases z))]
       exact this
      ·show upd _ _ _ tp=_
       rw [L2.upd_ne nft];exact q4
     ·rw [List.map_append]
      refine List.nodup_append.mpr ⟨ndq,List.nodup_cons.mpr ⟨(fun z=>nomatch z),List.nodup_nil⟩,fun x hx y hy e=>?_⟩
      rw [List.mem_singleton.mp hy] at e
      obtain ⟨m',a1,a2,a3,a4⟩:=(mem x).mp hx
      have:=sel_inj nd (by omega) (by omega) (a4.symm.trans e)
      omega
     ·rw [List.map_append,List.mem_append,mem,List.map_singleton,List.mem_singleton]
      constructor
      ·rintro (⟨m',a1,a2,a3,a4⟩ | rfl)
       ·exact ⟨m',a1,by omega,a3,a4⟩
       ·exact ⟨m,by omega,by omega,okm,rfl⟩
      ·rintro ⟨m',a1,a2,a3,a4⟩
       rcases Nat.lt_or_ge m' (1+i) with q | q
       ·exact .inl ⟨m',a1,q,a3,a4⟩
       ·have:m'=m:=by omega
        subst this
        exact .inr a4
   ·rw [decide_eq_false hy]
    refine iteF ⟨_,qs,rfl,s9,h9,T9,ndq,by omega,fun c=>?_⟩
    rw [mem]
    constructor
    ·rintro ⟨m',a1,a2,a3,a4⟩
     exact ⟨m',a1,by omega,a3,a4⟩
    ·rintro ⟨m',a1,a2,a3,a4⟩
     rcases Nat.lt_or_ge m' (1+i) with q | q
     ·exact ⟨m',a1,q,a3,a4⟩
     ·have:m'=m:=by omega
      subst this
      exact absurd (no.mpr a3) hy
  ·rintro σ H2 ⟨v5,qs,rfl,s2,h2,T2,ndq,lc,mem⟩
   have ne0:∀ q∈qs,q.2≠[]:=fun q hq e=>by
    obtain ⟨m,a1,a2,a3,a4⟩:=(mem q.2).mp (List.mem_map.mpr ⟨q,hq,rfl⟩)
    have:=((cutX_iff ins _).mp (cut_of_mask nd a1 (by omega) a3)).one
    rw [<- a4,e] at this
    exact absurd this (by decide)
   refine ⟨_,rfl,fo,qs,rfl,SqL.of h2,T2,ne0,by omega,fun q qs' nq pm up=>?_⟩
   have sA:=s1.trans (s6.trans s2)
   have sQ:=same_upd (o:=.lst (qs'.map fun q=>V.ref q.1)) nq
   refine k q qs' _ (sA.free nq) upd_same (fun p hp=>sQ _ _ (T2 p (pm.mem_iff.mp hp))) ⟨?_,fun c=>?_,List.pairwise_map.mpr up⟩ (by rw [pm.length_eq];omega) (sA.trans sQ)
   ·exact (pm.map (·.2)).nodup_iff.mpr ndq
   ·rw [(pm.map (·.2)).mem_iff,mem,<- cutX_iff ins]
    constructor
    ·rintro ⟨m,a1,a2,a3,rfl⟩
     exact cut_of_mask nd a1 (by omega) a3
    ·intro h
     obtain ⟨m,a1,a2,a3,a4⟩:=mask_of_cut nd ins h
     exact ⟨m,a1,by omega,a3,a4⟩
end
open PySem PySem.Spec PyProof.Rows L2
section
variable {P:Program} {w:World} {K:PySem.W.Frag} {mg:Str->Option Value} {base:Heap}
def spWeb:Sp:=fun vs H Q _=>∃ (p:Addr),vs=[.ref p]/\Row H p/\∀ (t a b:Addr) (ns:List Str) (ps:List (Str × Str)) (ts:List Addr) (H':Hp),Lists H' a b ns ps ts->H' t=some (.tup [.ref a,.ref b])->H a=none->H b=none->H t=none->a≠b->Row H' p->But p H H'->Q (.ref t) H'
abbrev nW:List Str:=["_law_pot_here","_law_names_here","_law_sort","_law_many"]
theorem scWb:FnScope nW ["_law_pot_here"] (defScope sWeb):=⟨rfl,rfl,rfl,by decide +kernel,rfl,by decide +kernel,by decide +kernel⟩
theorem ok_web {f fD fW fN fT:Addr} {fd fdD fdW fdN fdT:FuncData} (F:Fun K "_law_web" "_law_web" sWeb f fd) (D:Df K mg "_law_take" sTake ["_law_pot_here","_law_many"] fD fdD) (DW:Df K mg "_law_word" sWord ["_law_pot_here"] fW fdW)
  (DN:Df K mg "_law_names" sNames ["_law_pot_here","_law_most"] fN fdN) (DT:Df K mg "_law_tie" sLTie ["_law_pot_here","_law_names_here","_law_sort"] fT fdT) (T:Glb mg):FnOk P w K mg base CX0 4 f fd ["_law_pot_here"] spWeb:=by
 have G:FnOk P w K mg base CX0 1 fD fdD ["_law_pot_here","_law_many"] spDraw:=ok_take D.fn T
 have GN:FnOk P w K mg base CX0 3 fN fdN ["_law_pot_here","_law_most"] spNames:=ok_names DN.fn D DW T
 have GT:FnOk P w K mg base CX0 2 fT fdT ["_law_pot_here","_law_names_here","_law_sort"] spLTie:=ok_ltie DT.fn D T
 refine F.ok scWb (fun vs H Q E h=>?_) (fun cdv A outer s H vs Q E hr h=>?_)
 ·obtain ⟨p,rfl,_⟩:=h
  rfl
 ·obtain ⟨p,rfl,hp,k⟩:=h
  have h1:=hr.mono (j:=1) (by decide)
  have h2:=hr.mono (j:=2) (by decide)
  refine ⟨_,pss_cons (ps_set (i:=1) scWb.nd rfl (Or.inr rfl) (pe_call GN hr rfl DN.mgf DN.fn.kp DN.b .nil pass0 (pa_cons (pv 0) (pa_cons (pe_ix ix_list (pe_lst (pa_cons pe_int (pa_cons pe_int (pa_cons pe_int (pa_cons pe_int pa_nil))))) (pe_call G h1 rfl D.mgf D.fn.kp D.b .nil pass0 (pa_cons (pv 0) (pa_cons pe_int pa_nil))) (fun _ _=>rfl)) pa_nil))))
   (pss_cons (ps_set (i:=2) scWb.nd rfl (Or.inr rfl) (pe_call G h1 rfl D.mgf D.fn.kp D.b .nil pass0 (pa_cons (pv 0) (pa_cons pe_int pa_nil))))
   (pss_cons (ps_set (i:=3) scWb.nd rfl (Or.inl rfl) (pe_call G h1 rfl D.mgf D.fn.kp D.b .nil pass0 (pa_cons (pv 0) (pa_cons pe_int pa_nil))))
   (pss_cons (ps_if (pt_cmpR op_eq (pe_call G h1 rfl D.mgf D.fn.kp D.b .nil pass0 (pa_cons (pv 0) (pa_cons pe_int pa_nil))) pe_int (nomark _)) (pss_one (ps_set (i:=3) scWb.nd rfl (Or.inl rfl) (pe_op op_mod (pv 3) pe_int))) pss_nil)
   (pss_one (ps_ret (pe_tup (pa_cons (pv 1) (pa_cons
    (pe_lc ["_law_k"] [0,1,2] rfl (compSc (osc:=(defScope sWeb).names) (N:=nW) rfl rfl (by decide +kernel)) (gk_name (by decide))
     (pi_range1 rfl T.range (pa_cons (pv 3) pa_nil))
     (fun _ _ _=>pg_name (i:=0) (show (["_law_k","_law_pot_here","_law_names_here","_law_sort"]:List Str).Nodup by decide +kernel) rfl (Or.inl rfl)) (fun _ _ _=>pifs_nil)
     (fun _ _ _=>pe_call GT h2 rfl DT.mgf DT.fn.kp DT.b .nil pass0 (pa_cons (pv 1) (pa_cons (pv 2) (pa_cons (pv 3) pa_nil))))) pa_nil)))))))),?_⟩
  refine ⟨_,rfl,(by show 4<=sizeLine;decide),fun l0 hl0=>?_⟩
  have npl:p≠l0:=ne_of_none hp.lst.choose_spec hl0
  have s0:=same_upd (o:=.lst [.int 7,.int 7,.int 7,.int 12]) hl0
  refine ⟨_,rfl,p,4,rfl,hp.upd_ne npl,by decide,by decide,fun d0 H0 d0a d0b hp0 b0=>?_⟩
  have b00:But p H H0:=fun c o e n=>b0 c o (s0 c o e) n
  have hl:=b0 _ _ upd_same (Ne.symm npl)
  obtain ⟨m,em,m0,m12⟩:∃ m:Int,atI [V.int 7,V.int 7,V.int 7,V.int 12] d0=some (.int m)/\0 < m/\m<=12:=by
   have:d0=0\/d0=1\/d0=2\/d0=3:=by omega
   rcases this with rfl | rfl | rfl | rfl
   ·exact ⟨7,rfl,by decide,by decide⟩
   ·exact ⟨7,rfl,by decide,by decide⟩
   ·exact ⟨7,rfl,by decide,by decide⟩
   ·exact ⟨12,rfl,by decide,by decide⟩
  refine ⟨l0,_,_,_,rfl,rfl,SqL.of hl,em,p,m,rfl,m0,m12,hp0,fun q ns H1 good hq0 hq1 hp1 b1'=>?_⟩
  have b1:=b00.trans b1'
  have hq:H q=none:=b00.none hq0 (Ne.symm (ne_of_none hp0.lst.choose_spec hq0))
  have npq:p≠q:=ne_of_none hp.lst.choose_spec hq
  refine ⟨_,rfl,p,3,rfl,hp1,by decide,by decide,fun so H2 _ _ hp2 b2=>?_⟩
  have hq2:=b2 _ _ hq1 (Ne.symm npq)
  have b02:=b1.trans b2
  refine ⟨_,rfl,p,31,rfl,hp2,by decide,by decide,fun d3 H3 d3a d3b hp3 b3=>?_⟩
  have hq3:=b3 _ _ hq2 (Ne.symm npq)
  have b03:=b02.trans b3
  refine ⟨_,rfl,p,8,rfl,hp3,by decide,by decide,fun d4 H4 _ _ hp4 b4=>?_⟩
  replace hq3:=b4 _ _ hq3 (Ne.symm npq)
  replace b03:=b03.trans b4
  replace hp3:=hp4
  refine ⟨rfl,_,rfl,?_⟩
  have fin:∀ d:Int,0<=d->d < 31->tRet (tTup (tCons (tVar 1) (tCons (tLC ["_law_k"] [0,1,2] (iRng1 (tCons (tVar 3) tNil)) (gName 0) tYes (tCall spLTie [] E0 (tCons (tVar 1) (tCons (tVar 2) (tCons (tVar 3) tNil))))) tNil))) { nx:=fun x H'=>Q V.non H',rt:=Q } [some (V.ref p),some (V.ref q),some (V.int so),some (V.int d)] H4:=by
   intro d da db
   refine ⟨_,rfl,_,rfl,?_⟩
   refine ⟨_,rfl,by omega,by omega,lc_range (fun i ys H4=>Row H4 p/\But p H H4/\H4 q=some (.lst (ns.map V.str))/\∃ (ts:List Addr) (ps:List (Str × Str)),ys=ts.map V.ref/\TiesAt H4 ts ps/\ps.length=i/\InP ns ps) ⟨hp3,b03,hq3,[],[],rfl,.nil,rfl,(fun _ z=>nomatch z)⟩ ?_ ?_ ?_⟩
   ·rintro i ys H4 hi ⟨_,_,_,ts,ps,rfl,hT,hl,_⟩
    rw [List.length_map,hT.len,hl]
    exact Nat.le_trans hi (Nat.le_trans (show d.toNat<=30 by omega) (by decide))
   ·rintro i ys H4 R hi ⟨hp4,b4,hq4,ts,ps,rfl,hT,hl,ins⟩ kR
    simp only [tYes,gName,if_true]
    refine ⟨_,rfl,_,rfl,_,rfl,p,q,so,ns,rfl,hp4,Ne.symm npq,hq4,good,fun t x y H5 hx hy ht ht5 hp5 b5=>?_⟩
    have npt:p≠t:=ne_of_none hp4.lst.choose_spec ht
    refine kR _ _ ⟨hp5,b4.trans b5,b5 _ _ hq4 (Ne.symm npq),ts++[t],ps++[(x,y)],by simp,TiesAt.snoc (hT.but b5 (fun ys z=>by obtain ⟨xs,e⟩:=hp4.lst;rw [e] at z;cases z)) ht5,by simp [hl],fun z hz=>?_⟩
    rcases List.mem_append.mp hz with h | h
    ·exact ins z h
    ·rw [List.mem_singleton.mp h];exact ⟨hx,hy⟩
   ·rintro ys H4 ⟨hp4,b4,hq4,ts,ps,rfl,hT,hl,ins⟩ D0 hD0
    have npd:p≠D0:=ne_of_none hp4.lst.choose_spec hD0
    have HD:H D0=none:=b4.none hD0 (Ne.symm npd)
    have nqd:q≠D0:=ne_of_none hq4 hD0
    have few:ps.length<=30:=by rw [hl];omega
    have L5:Lists (upd H4 D0 (.lst (ts.map V.ref))) q D0 ns ps ts:=⟨by rw [L2.upd_ne nqd];exact hq4,upd_same,hT.same (same_upd hD0),good,ins,few⟩
    have hp5:=hp4.upd_ne (o:=.lst (ts.map V.ref)) npd
    have b5:=b4.upd_new (o:=.lst (ts.map V.ref)) HD
    generalize upd H4 D0 (.lst (ts.map V.ref))=H5 at L5 hp5 b5 ⊢
    refine ⟨(by show 2<=sizeLine;decide),fun t ht=>?_⟩
    have npt:p≠t:=ne_of_none hp5.lst.choose_spec ht
    have Ht:H t=none:=b5.none ht (Ne.symm npt)
    exact k t q D0 ns ps ts _ (L5.same (same_upd ht)) upd_same hq HD Ht nqd (hp5.upd_ne npt) (b5.upd_new Ht)
  refine ite2 (fun _=>⟨_,rfl,_,_,rfl,rfl,(show (0:Int) < 4 by decide),fin _ (by omega) (by omega)⟩) (fun _=>fin _ d3a d3b)
end
end K22
namespace L2
open PySem PySem.Spec PyProof.Rows
section
variable {X:Cx}
end
theorem vals_refs:∀ {as:List Addr} {us:List Value},Vals (as.map V.ref) us->us=as.map Value.ref
 | [],_,.nil=>rfl
 | a::as,_,.cons r h=>by
  rw [vals_refs h]
  cases r
  rfl
end L2
namespace K22
open PySem PySem.Spec PyProof.Rows L2 L3
abbrev sTMy:Stmt:=top 46 -- _law_too_many
abbrev sATs:Stmt:=top 47 -- _law_are_tuples
structure Errs (K:PySem.W.Frag) (mg:Str->Option Value) (E0 E7 A1 A2 A3 A4 A5 A6 B1 B2 B3 B4:Addr):Prop where
 b0:mg "WebError" = some (.ref E0)
 x7:Ex K mg "TooMany" E7
 a1:mg "Apart" = some (.ref A1)
 a2:mg "Crossed" = some (.ref A2)
 a3:mg "NoCut" = some (.ref A3)
 a4:mg "NoPlace" = some (.ref A4)
 a5:mg "NoStep" = some (.ref A5)
 a6:mg "NoText" = some (.ref A6)
 c1:mg "NoTie" = some (.ref B1)
 c2:mg "NoTree" = some (.ref B2)
 c3:mg "NoWeb" = some (.ref B3)
 c4:mg "Twice" = some (.ref B4)
 ve:mg "ValueError" = none
 ex:PySem.W.exmOne K (.ref E7) (.ref E0)=some true
 k1:PySem.W.kitOne K (.ref E7) (.ref E7)=some true
 k2:PySem.W.kitOne K (.ref E7) (.type "ValueError")=some true
 k3:PySem.W.kitAny K (.ref E7) [.ref A1,.ref A2,.ref A3,.ref A4,.ref A5,.ref A6]=some false
 k4:PySem.W.kitAny K (.ref E7) [.ref B1,.ref B2,.ref B3,.ref B4]=some false
 xc:ExcCl K E7
theorem boot_VE:bootBuiltins "ValueError" = some (.type "ValueError"):=by rfl
def rIsT (K:PySem.W.Frag):List V->Hp->VK->Prop:=fun xs H Q=>∃ (a C tp:Addr) (cs:List V) (cvs:List Value) (b:Bool),xs=[.ref a,.ref tp]/\H tp=some (.tup cs)/\(∀ us,Vals cs us->us=cvs)/\H a=some (excO a (.ref C))/\ExcCl K C/\PySem.W.kitAny K (.ref C) cvs=some b/\Q (.bl b) H
def rIsE (K:PySem.W.Frag):List V->Hp->VK->Prop:=fun xs H Q=>∃ (a C:Addr) (c:V) (cv:Value) (b:Bool),xs=[.ref a,c]/\(∀ u,RelV c u->u=cv)/\H a=some (excO a (.ref C))/\ExcCl K C/\PySem.W.kitOne K (.ref C) cv=some b/\Q (.bl b) H
section
variable {P:Program} {w:World} {K:PySem.W.Frag} {mg:Str->Option Value} {base:Heap}
variable {C E0 E7 A1 A2 A3 A4 A5 A6 B1 B2 B3 B4 fAC:Addr} {fdAC:FuncData}
def spTMy (C:Addr):Sp:=fun vs H Q _=>∃ (x:Addr) (ns:List Str) (ps:List (Str × Str)) (cs:List (List Str)),vs=[.ref x]/\WebObj C H x ns ps/\GoodW ns ps/\cs.Nodup/\(∀ X∈cs,CutX (srt ns) ps X)/\1022 < cs.length/\∀ H',Same H H'->Q (.bl true) H'
abbrev nTM:List Str:=["_law_web_here","_law_told","e"]
theorem scTMy:FnScope nTM ["_law_web_here"] (defScope sTMy):=⟨rfl,rfl,rfl,by decide +kernel,rfl,by decide +kernel,by decide +kernel⟩
theorem ok_tmy {f:Addr} {fd:FuncData} (F:Fun K "_law_too_many" "_law_too_many" sTMy f fd) (X:Errs K mg E0 E7 A1 A2 A3 A4 A5 A6 B1 B2 B3 B4) (DA:Df K mg "all_cuts" sAll ["web"] fAC fdAC) (GA:FnOk P w K mg base (CXO P w) 5 fAC fdAC ["web"] (spAC C E7)) (T:Glb mg):FnOk P w K mg base CX0 6 f fd ["_law_web_here"] (spTMy C):=by
 refine F.ok scTMy (fun vs H Q E h=>?_) (fun cdv A outer s H vs Q E hr h=>?_)
 ·obtain ⟨x,ns,ps,cs,rfl,_⟩:=h
  rfl
 ·obtain ⟨x,ns,ps,cs,rfl,W,g,nd,cut,lot,k⟩:=h
  refine ⟨_,pss_cons (ps_set (i:=1) scTMy.nd rfl (Or.inl rfl) (pe_lst pa_nil))
   (pss_cons (ps_try rfl rfl (pex_call GA hr rfl DA.mgf DA.fn.kp DA.b .nil (fun _=>pa_cons (pv 0) pa_nil)) rfl X.b0 scTMy.nd (i:=2) rfl rfl (fun _ =>
    pss_cons (ps_set (i:=1) scTMy.nd rfl (Or.inl rfl) (pe_lst (pa_cons (pe_callB (r:=rIsE K) call_isinstE (by rfl) T.isinst boot_isinstance (pa_cons (pv 2) (pa_cons (pe_glob (v:=.ref E7) rfl X.x7.b rfl) pa_nil)))
      (pa_cons (pe_callB (r:=rIsE K) call_isinstE (by rfl) T.isinst boot_isinstance (pa_cons (pv 2) (pa_cons (pe_bltn (v:=.ty "ValueError") rfl X.ve boot_VE rfl) pa_nil))) pa_nil))))
    (pss_cons (ps_expr (pe_bmK (K:=K) (r:=rAppend) rfl PySem.F.plainAttrs_list PySem.F.slot_list_append PySem.F.type_list_append mt_append (pv 1) (pa_cons (pe_callB (r:=rIsT K) call_isinstT (by rfl) T.isinst boot_isinstance (pa_cons (pv 2) (pa_cons (pe_tup (pa_cons (pe_glob (v:=.ref A1) rfl X.a1 rfl) (pa_cons (pe_glob (v:=.ref A2) rfl X.a2 rfl) (pa_cons (pe_glob (v:=.ref A3) rfl X.a3 rfl) (pa_cons (pe_glob (v:=.ref A4) rfl X.a4 rfl) (pa_cons (pe_glob (v:=.ref A5) rfl X.a5 rfl) (pa_cons (pe_glob (v:=.ref A6) rfl X.a6 rfl) pa_nil))))))) pa_nil))) pa_nil)))
    (pss_one (ps_expr (pe_bmK (K:=K) (r:=rAppend) rfl PySem.F.plainAttrs_list PySem.F.slot_list_append PySem.F.type_list_append mt_append (pv 1) (pa_cons (pe_callB (r:=rIsT K) call_isinstT (by rfl) T.isinst boot_isinstance (pa_cons (pv 2) (pa_cons (pe_tup (pa_cons (pe_glob (v:=.ref B1) rfl X.c1 rfl) (pa_cons (pe_glob (v:=.ref B2) rfl X.c2 rfl) (pa_cons (pe_glob (v:=.ref B3) rfl X.c3 rfl) (pa_cons (pe_glob (v:=.ref B4) rfl X.c4 rfl) pa_nil))))) pa_nil))) pa_nil)))))))
   (pss_one (ps_ret (pe_cmpR (op_eq_flat (low 0 hr)) (pv 1) (pe_lst (pa_cons pe_bl (pa_cons pe_bl (pa_cons pe_bl (pa_cons pe_bl pa_nil))))) (nomark _))))),?_⟩
  refine ⟨(by decide),fun l0 nl0=>?_⟩
  have s0:=same_upd (o:=.lst []) nl0
  generalize upd H l0 (.lst [])=H0 at s0 ⊢
  refine ⟨_,rfl,x,ns,ps,rfl,W.same s0,g,fun H1 _ s1=>⟨X.ex,fun a ha=>?_⟩,fun q qs H1 _ _ _ ok _=>?_⟩
  ·have ha':=upd_same (H:=H1) (a:=a) (o:=excO a (.ref E7))
   have sa:=s0.trans (s1.trans (same_upd (o:=excO a (.ref E7)) ha))
   generalize upd H1 a (excO a (.ref E7))=H2 at ha' sa ⊢
   refine ⟨_,rfl,a,E7,_,.ref E7,true,rfl,(fun u r=>r),ha',X.xc,X.k1,_,rfl,a,E7,_,.type "ValueError",true,rfl,(fun u r=>r),ha',X.xc,X.k2,(by show 2<=sizeLine;decide),fun l nl=>?_⟩
   have sl:=same_upd (o:=.lst [V.bl true,V.bl true]) nl
   have Hl:=sa.free nl
   have hl:=upd_same (H:=H2) (a:=l) (o:=.lst [V.bl true,V.bl true])
   have ha3:=sl _ _ ha'
   have s3:=sa.trans sl
   generalize upd H2 l (.lst [V.bl true,V.bl true])=H3 at sl hl ha3 s3 ⊢
   refine ⟨_,rfl,.inl ⟨rfl,_,SqL.of hl⟩,_,rfl,(by show 6<=sizeLine;decide),fun t1 nt1=>?_⟩
   have st1:=same_upd (o:=.tup [.ref A1,.ref A2,.ref A3,.ref A4,.ref A5,.ref A6]) nt1
   have ht1:=upd_same (H:=H3) (a:=t1) (o:=.tup [.ref A1,.ref A2,.ref A3,.ref A4,.ref A5,.ref A6])
   have hl4:=st1 _ _ hl
   have ha4:=st1 _ _ ha3
   have s4:=s3.trans st1
   generalize upd H3 t1 (.tup [.ref A1,.ref A2,.ref A3,.ref A4,.ref A5,.ref A6])=H4 at ht1 hl4 ha4 s4 ⊢
   refine ⟨a,E7,t1,_,_,false,rfl,ht1,fun us r=>vals_refs (as:=[A1,A2,A3,A4,A5,A6]) r,ha4,X.xc,X.k3,l,_,_,rfl,rfl,hl4,(by decide),?_⟩
   have hl5:=upd_same (H:=H4) (a:=l) (o:=.lst ([V.bl true,V.bl true]++[V.bl false]))
   have ha5:upd H4 l (.lst ([V.bl true,V.bl true]++[V.bl false])) a=some (excO a (.ref E7)):=by rw [L2.upd_ne (ne_of ha4 hl4 (by intro z;cases z))];exact ha4
   have s5:Same H (upd H4 l (.lst ([V.bl true,V.bl true]++[V.bl false]))):=Same.upd_new s4 Hl
   generalize upd H4 l (.lst ([V.bl true,V.bl true]++[V.bl false]))=H5 at hl5 ha5 s5 ⊢
   refine ⟨_,rfl,.inl ⟨rfl,_,SqL.of hl5⟩,_,rfl,(by show 4<=sizeLine;decide),fun t2 nt2=>?_⟩
   have st2:=same_upd (o:=.tup [.ref B1,.ref B2,.ref B3,.ref B4]) nt2
   have ht2:=upd_same (H:=H5) (a:=t2) (o:=.tup [.ref B1,.ref B2,.ref B3,.ref B4])
   have hl6:=st2 _ _ hl5
   have ha6:=st2 _ _ ha5
   have s6:=s5.trans st2
   generalize upd H5 t2 (.tup [.ref B1,.ref B2,.ref B3,.ref B4])=H6 at ht2 hl6 ha6 s6 ⊢
   refine ⟨a,E7,t2,_,_,false,rfl,ht2,fun us r=>vals_refs (as:=[B1,B2,B3,B4]) r,ha6,X.xc,X.k4,l,_,_,rfl,rfl,hl6,(by decide),?_⟩
   have hl7:=upd_same (H:=H6) (a:=l) (o:=.lst ([V.bl true,V.bl true]++[V.bl false]++[V.bl false]))
   have s7:Same H (upd H6 l (.lst ([V.bl true,V.bl true]++[V.bl false]++[V.bl false]))):=Same.upd_new s6 Hl
   generalize upd H6 l (.lst ([V.bl true,V.bl true]++[V.bl false]++[V.bl false]))=H7 at hl7 s7 ⊢
   refine ⟨_,rfl,(by show 4<=sizeLine;decide),fun r nr=>?_⟩
   have sr:=same_upd (o:=.lst [V.bl true,V.bl true,V.bl false,V.bl false]) nr
   refine ⟨l,r,_,_,rfl,rfl,.inl ⟨SqL.of (sr _ _ hl7),SqL.of upd_same⟩,rfl,rfl,?_⟩
   exact k _ (s7.trans sr)
  ·exact absurd (nd.length_le_of_subset fun X hX=>(ok.me X).mpr (cut X hX)) (by have:=ok.few;omega)
end
section
variable {P:Program} {w:World} {K:PySem.W.Frag} {mg:Str->Option Value} {base:Heap}
def spATs:Sp:=fun vs H Q _=>∃ (q:Addr) (qs:List (Addr × List Str)),vs=[.ref q]/\H q=some (.lst (qs.map fun q=>V.ref q.1))/\Hold H qs/\qs.length<=10000/\∀ H',Same H H'->Q (.bl true) H'
abbrev nAT:List Str:=["_law_found"]
theorem scAT:FnScope nAT nAT (defScope sATs):=⟨rfl,rfl,rfl,by decide +kernel,rfl,by decide +kernel,by decide +kernel⟩
theorem ok_ats {f:Addr} {fd:FuncData} (F:Fun K "_law_are_tuples" "_law_are_tuples" sATs f fd) (T:Glb mg):FnOk P w K mg base CX0 1 f fd nAT spATs:=by
 refine F.ok scAT (fun vs H Q E h=>?_) (fun cdv A outer s H vs Q E hr h=>?_)
 ·obtain ⟨q,qs,rfl,_⟩:=h
  rfl
 ·obtain ⟨q,qs,rfl,hq,hold,few,k⟩:=h
  refine ⟨_,pss_cons (ps_if (pt_not (pt_val (pe_callB (call_isinst (T:="list")) (by rfl) T.isinst boot_isinstance (pa_cons (pv 0) (pa_cons (pe_bltn (v:=.ty "list") rfl T.list PyProof.Rows.boot_list rfl) pa_nil))) (fun _=>rfl))) (pss_one (ps_ret pe_bl)) pss_nil)
   (pss_one (ps_ret (pe_cmpR (op_eq_nil (low 0 hr)) (pe_lc ["_law_one"] [] rfl (compSc (osc:=(defScope sATs).names) (N:=nAT) rfl rfl (by decide +kernel)) (gk_name (by decide)) (pi_list (pv 0))
    (fun _ _ _=>pg_name (i:=0) (show (["_law_one"]:List Str).Nodup by decide +kernel) rfl (Or.inl rfl))
    (fun _ _ _=>pifs_one (pt_not (pt_val (pe_callB (r:=fun xs H Q=>∃ x t b,xs=[x,.ty "tuple"]/\TyOf K H x t/\PySem.W.kitOne K t (.type "tuple")=some b/\Q (.bl b) H) (call_isinst (T:="tuple")) (by rfl) T.isinst boot_isinstance (pa_cons (pv 0) (pa_cons (pe_bltn (v:=.ty "tuple") rfl T.tuple PyProof.Rows.boot_tuple rfl) pa_nil))) (fun _=>rfl))))
    (fun _ _ _=>pv 0)) (pe_lst pa_nil) (nomark _)))),?_⟩
  refine ⟨_,rfl,_,_,true,rfl,.lst hq,rfl,_,rfl,?_⟩
  refine iteF ⟨_,rfl,q,rfl,⟨_,SqL.of hq⟩,lc_list (K:=K) (xs:=qs.map fun q=>V.ref q.1) (fun i ys H2=>H2=H/\ys=[]) ⟨rfl,rfl⟩ ?_ ?_ ?_ ?_⟩
  ·rintro i ys H2 hi ⟨_,rfl⟩
   exact Nat.zero_le _
  ·rintro i ys H2 _ ⟨rfl,_⟩
   exact SqL.of hq
  ·rintro i y ys H2 R hy ⟨rfl,rfl⟩ kR
   rw [List.getElem?_map] at hy
   obtain ⟨q1,e1,rfl⟩:=Option.map_eq_some_iff.mp hy
   simp only [gName]
   refine ⟨_,rfl,_,_,true,rfl,.tup (hold q1 (List.mem_of_getElem? e1)),rfl,_,rfl,?_⟩
   exact iteF (kR _ _ ⟨rfl,rfl⟩)
  ·rintro ys H2 ⟨rfl,rfl⟩ D hD
   have s1:=same_upd (o:=.lst []) hD
   refine ⟨(by decide),fun D2 hD2=>?_⟩
   have s2:=same_upd (o:=.lst []) hD2
   refine ⟨D,D2,[],rfl,rfl,SqL.of (s2 _ _ upd_same),SqL.of upd_same,k _ (s1.trans s2)⟩
end
def co (zs X:List Str):List Str:=zs.filter fun y=>!decide (y∈X)
theorem co_mem {zs X:List Str} {y:Str}:y∈co zs X ↔ y∈zs/\y ∉ X:=by unfold co;rw [List.mem_filter];simp
theorem two_filters (p:Str->Bool):∀ zs:List Str,(zs.filter p).length+(zs.filter fun y=>!p y).length=zs.length
 | []=>rfl
 | z::zs=>by
  have ih:=two_filters p zs
  rw [List.filter_cons,List.filter_cons]
  cases p z
  ·rw [if_neg (by decide),if_pos (by decide)];simp only [List.length_cons];omega
  ·rw [if_pos rfl,if_neg (by decide)];simp only [List.length_cons];omega
theorem co_len {zs X:List Str} {ps:List (Str × Str)} (h:CutX zs ps X):X.length+(co zs X).length=zs.length:=by
 have:=two_filters (fun y=>decide (y∈X)) zs
 conv=>lhs;arg 1;rw [h.eq]
 unfold co
 exact this
theorem co_cut {zs X:List Str} {ps:List (Str × Str)} (h:CutX zs ps X) (hi:InP zs ps):CutX zs (turn ps) (co zs X):=by
 have l:=co_len h
 have l1:=h.one
 have l2:=h.lt
 refine ⟨?_,fun p hp h1=>?_,by omega,by omega⟩
 ·conv=>lhs;unfold co
  refine List.filter_congr fun y hy=>?_
  rw [Bool.eq_iff_iff,decide_eq_true_iff,co_mem]
  simp [hy]
 ·obtain ⟨a,b⟩:=p
  have hp:=turn_mem.mp hp
  rw [co_mem] at h1 ⊢
  exact ⟨(hi _ hp).1,fun hb=>h1.2 (h.sh _ hp hb)⟩
theorem co_co {zs X:List Str} {ps:List (Str × Str)} (h:CutX zs ps X):co zs (co zs X)=X:=by
 rw [h.eq]
 unfold co
 refine List.filter_congr fun y hy=>?_
 rw [Bool.eq_iff_iff]
 simp [hy]
theorem nd_map {α β:Type} {f:α->β}:∀ {l:List α},l.Nodup->(∀ x∈l,∀ y∈l,f x=f y->x=y)->(l.map f).Nodup
 | [],_,_=>List.nodup_nil
 | x::l,h,i=>by
  rw [List.map_cons,List.nodup_cons]
  have h':=List.nodup_cons.mp h
  refine ⟨fun hx=>?_,nd_map h'.2 fun a ha b hb=>i a (.tail _ ha) b (.tail _ hb)⟩
  obtain ⟨y,hy,e⟩:=List.mem_map.mp hx
  have:=i y (.tail _ hy) x (.head _) e
  rw [this] at hy
  exact h'.1 hy
theorem pwT_uniq:∀ {l m:List (List Str)},l.Perm m->(l.Pairwise fun a b=>ltT b a=false)->(m.Pairwise fun a b=>ltT b a=false)->l=m
 | [],m,p,_,_=>(List.nil_perm.mp p).symm
 | x::l,[],p,_,_=>absurd p (by simp)
 | x::l,y::m,p,a,b=>by
  have a':=List.pairwise_cons.mp a
  have b':=List.pairwise_cons.mp b
  have e:x=y:=by
   rcases List.mem_cons.mp (p.mem_iff.mp List.mem_cons_self) with q | q
   ·exact q
   ·rcases List.mem_cons.mp (p.mem_iff.mpr (List.mem_cons_self (a:=y))) with q2 | q2
    ·exact q2.symm
    ·exact ltT_total _ _ (b'.1 x q) (a'.1 y q2)
  subst e
  rw [pwT_uniq ((List.perm_cons _).mp p) a'.2 b'.2]
theorem al_tups {K:PySem.W.Frag} {H:Hp} {p q:Addr} {rs qs:List (Addr × List Str)} (hp:H p=some (.lst (rs.map fun q=>V.ref q.1))) (hq:H q=some (.lst (qs.map fun q=>V.ref q.1))) (hr:Hold H rs) (hs:Hold H qs) (e:rs.map (·.2)=qs.map (·.2)):AlS K H 1 (.ref p) (.ref q):=by
 refine ⟨p,q,_,_,rfl,rfl,.inl ⟨SqL.of hp,SqL.of hq⟩,by have:=congrArg List.length e;simpa using this,fun i a b ha hb=>?_⟩
 rw [List.getElem?_map] at ha hb
 obtain ⟨x,ex,rfl⟩:=Option.map_eq_some_iff.mp ha
 obtain ⟨y,ey,rfl⟩:=Option.map_eq_some_iff.mp hb
 have exy:x.2=y.2:=by
  have:=congrArg (fun l=>l[i]?) e
  simp only [List.getElem?_map,ex,ey,Option.map_some] at this
  exact Option.some.inj this
 refine .inr ⟨x.1,y.1,_,_,rfl,rfl,.inr ⟨SqT.of (hr x (List.mem_of_getElem? ex)),SqT.of (hs y (List.mem_of_getElem? ey))⟩,by rw [exy],fun j c d hc hd=>?_⟩
 rw [exy] at hc
 rw [hc] at hd
 cases hd
 rw [List.getElem?_map] at hc
 obtain ⟨z,_,rfl⟩:=Option.map_eq_some_iff.mp hc
 exact Al.txt
theorem perm_nd {α:Type} [DecidableEq α] {l m:List α} (hl:l.Nodup) (hm:m.Nodup) (h:∀ x,x∈l ↔ x∈m):l.Perm m:=perm_of_sub hl (fun x=>(h x).mp) (hm.length_le_of_subset fun x=>(h x).mpr)
theorem CutsD.uniq {zs:List Str} {ps:List (Str × Str)} {cs ds:List (List Str)} (a:CutsD zs ps cs) (b:CutsD zs ps ds):cs=ds:=pwT_uniq (perm_nd a.nd b.nd fun X=>(a.me X).trans (b.me X).symm) a.up b.up
theorem CutsOk.d {zs:List Str} {ps:List (Str × Str)} {cs:List (List Str)} (a:CutsOk zs ps cs):CutsD zs ps cs:=⟨a.nd,a.me,a.up⟩
theorem not_many {zs:List Str} {ps:List (Str × Str)} {cs:List (List Str)} (me:∀ X,CutX zs ps X->X∈cs) (h:cs.length<=1022):¬ Many zs ps:=fun m=>absurd (m cs me) (by omega)
theorem co_some {zs:List Str} {ps:List (Str × Str)} {cs:List (List Str)} (hi:InP zs ps) (nd:cs.Nodup) (me:∀ X∈cs,CutX zs ps X):(cs.map (co zs)).Nodup/\∀ X∈cs.map (co zs),CutX zs (turn ps) X:=by
 refine ⟨nd_map nd fun X hX Y hY e=>?_,fun X hX=>?_⟩
 ·rw [<- co_co (me X hX),<- co_co (me Y hY),e]
 ·obtain ⟨Y,hY,rfl⟩:=List.mem_map.mp hX
  exact co_cut (me Y hY) hi
theorem co_all {zs:List Str} {ps:List (Str × Str)} {cs:List (List Str)} (hi:InP zs ps) (a:CutsD zs ps cs) (X:List Str):X∈cs.map (co zs) ↔ CutX zs (turn ps) X:=by
 constructor
 ·exact (co_some hi a.nd fun X hX=>(a.me X).mp hX).2 X
 ·intro h
  have:=co_cut h (turn_in hi)
  rw [turn_turn] at this
  exact List.mem_map.mpr ⟨co zs X,(a.me _).mpr this,co_co h⟩
theorem ten_few {zs:List Str} (nd:zs.Nodup) (l:zs.length=10):¬ Many zs []:=by
 refine not_many (cs:=(List.range 1022).map fun i=>sel zs (i+1)) (fun X h=>?_) (by simp)
 obtain ⟨m,a1,a2,a3,a4⟩:=mask_of_cut nd (fun p h=>by simp at h) ((cutX_iff (fun p h=>by simp at h) X).mpr h)
 rw [l] at a2
 exact List.mem_map.mpr ⟨m - 1,List.mem_range.mpr (by omega),by rw [a4,show m - 1+1=m by omega]⟩
def star (zs ten:List Str) (z:Str) (m:Nat):List Str:=zs.filter fun y=>decide (y=z) || bt ten m y
theorem star_lot {zs ten:List Str} {z:Str} (nd:ten.Nodup) (l:ten.length=10) (nz:z ∉ ten) (hz:z∈zs) (ht:∀ y∈ten,y∈zs) :
  ((List.range 1023).map (star zs ten z)).Nodup/\(∀ X∈(List.range 1023).map (star zs ten z),CutX zs (ten.map fun y=>(y,z)) X)/\1022 < ((List.range 1023).map (star zs ten z)).length:=by
 have at_:∀ {m k:Nat} (hk:k < ten.length),ten[k]∈star zs ten z m ↔ m.testBit k=true:=fun {m k} hk=>by
  unfold star
  have mk:=List.getElem_mem hk
  have ne:ten[k]≠z:=fun e=>nz (e ▸ mk)
  rw [List.mem_filter,decide_eq_false ne,Bool.false_or]
  unfold bt
  rw [idx_at nd hk]
  exact ⟨fun h=>h.2,fun h=>⟨ht _ mk,h⟩⟩
 have zin:∀ m,z∈star zs ten z m:=fun m=>by unfold star;exact List.mem_filter.mpr ⟨hz,by simp⟩
 refine ⟨nd_map List.nodup_range fun m hm n hn e=>?_,fun X hX=>?_,by simp⟩
 ·have hm:=List.mem_range.mp hm
  have hn:=List.mem_range.mp hn
  apply Nat.eq_of_testBit_eq
  intro k
  rcases Nat.lt_or_ge k ten.length with q | q
  ·rw [Bool.eq_iff_iff,<- at_ q,<- at_ q,e]
  ·have p:2 ^ 10<=2 ^ k:=Nat.pow_le_pow_right (by decide) (by omega)
   rw [Nat.testBit_lt_two_pow (by omega),Nat.testBit_lt_two_pow (by omega)]
 ·obtain ⟨m,hm,rfl⟩:=List.mem_map.mp hX
  have hm:=List.mem_range.mp hm
  refine ⟨?_,fun p hp _=>?_,List.length_pos_iff.mpr (List.ne_nil_of_mem (zin m)),?_⟩
  ·conv=>lhs;unfold star
   refine List.filter_congr fun y hy=>?_
   rw [Bool.eq_iff_iff,decide_eq_true_iff]
   unfold star
   rw [List.mem_filter]
   exact ⟨fun h=>⟨hy,h⟩,fun h=>h.2⟩
  ·obtain ⟨y,_,rfl⟩:=List.mem_map.mp hp
   exact zin m
  ·obtain ⟨k,hk,e⟩:=mask_none (m:=m) (n:=10) (by omega) (by omega)
   have hk':k < ten.length:=by omega
   refine List.length_filter_lt_length_iff_exists.mpr ⟨ten[k],ht _ (List.getElem_mem hk'),fun h=>?_⟩
   have:=(at_ (m:=m) hk').mp (List.mem_filter.mpr ⟨ht _ (List.getElem_mem hk'),h⟩)
   rw [e] at this
   cases this
abbrev sJT:Stmt:=top 48 -- _law_just_told
def ltr (d:Nat):Str:=one (abc.cps.toList[d]?.getD 0)
theorem abc_len:abc.cps.toList.length=26:=by decide +kernel
theorem ltr_at {d:Nat} (h:d < 26):abc.cps.toList[d]?=some (abc.cps.toList[d]?.getD 0):=by
 rw [List.getElem?_eq_getElem (by rw [abc_len];exact h)];rfl
theorem ltr_nm {d:Nat} (h:d < 26):nm (ltr d)=true:=nm_one (abc_ok _ (List.mem_of_getElem? (ltr_at h)))
theorem ltr_inj {d e:Nat} (hd:d < 26) (he:e < 26) (h:ltr d=ltr e):d=e:=by
 have l1:d < (abc.cps.toList.map one).length:=by rw [List.length_map,abc_len];exact hd
 have l2:e < (abc.cps.toList.map one).length:=by rw [List.length_map,abc_len];exact he
 have e1:(abc.cps.toList.map one)[d]=ltr d:=by
  have:=ltr_at hd
  unfold ltr
  rw [List.getElem_map,List.getElem?_eq_getElem (by rw [abc_len];exact hd)]
  rfl
 have e2:(abc.cps.toList.map one)[e]=ltr e:=by
  unfold ltr
  rw [List.getElem_map,List.getElem?_eq_getElem (by rw [abc_len];exact he)]
  rfl
 exact (List.getElem_inj abc_nd).mp (e1.trans (h.trans e2.symm))
def jn (f n:Nat):List Str:=(List.range n).map fun k=>ltr ((f+3 * k) % 26)
theorem jn_len (f n:Nat):(jn f n).length=n:=by unfold jn;rw [List.length_map,List.length_range]
theorem jn_nd (f n:Nat) (h:n<=11):(jn f n).Nodup:=nd_map List.nodup_range fun a ha b hb e=>by
 have ha:=List.mem_range.mp ha
 have hb:=List.mem_range.mp hb
 have:=ltr_inj (Nat.mod_lt _ (by decide)) (Nat.mod_lt _ (by decide)) e
 omega
theorem jn_good (f n:Nat) (h1:1<=n) (h:n<=11):GoodP (jn f n):=⟨by rw [jn_len];exact h1,by rw [jn_len];omega,fun z hz=>by
 obtain ⟨k,_,rfl⟩:=List.mem_map.mp hz
 exact ltr_nm (Nat.mod_lt _ (by decide)),jn_nd f n h⟩
theorem jn_succ (f n:Nat):jn f (n+1)=jn f n++[ltr ((f+3 * n) % 26)]:=by unfold jn;rw [List.range_succ,List.map_append];rfl
theorem cut10 {xs:List V} (h:xs.length=11):cutV xs none (some 10)=xs.take 10:=by
 unfold cutV
 rw [h]
 rfl
section
variable {P:Program} {w:World} {K:PySem.W.Frag} {mg:Str->Option Value} {base:Heap}
variable {C E7 fTk fCu fIn fAC fTM:Addr} {fdTk fdCu fdIn fdAC fdTM:FuncData}
structure Tells (P:Program) (w:World) (K:PySem.W.Frag) (mg:Str->Option Value) (base:Heap) (C E7 fTk fCu fIn fAC fTM:Addr) (fdTk fdCu fdIn fdAC fdTM:FuncData):Prop where
 dtk:Df K mg "_law_take" sTake ["_law_pot_here","_law_many"] fTk fdTk
 gtk:FnOk P w K mg base CX0 1 fTk fdTk ["_law_pot_here","_law_many"] spDraw
 dcu:Df K mg "_law_cuts" sCuts ["_law_names_here","_law_ties"] fCu fdCu
 gcu:FnOk P w K mg base CX0 1 fCu fdCu ["_law_names_here","_law_ties"] spCuts
 wc:WC K mg C
 mkw:Mk K C fIn
 bi:Binds K fdIn ["self","places","ties"] []
 gi:FnOk P w K mg base CX0 4 fIn fdIn ["self","places","ties"] (spInit C)
 dac:Df K mg "all_cuts" sAll ["web"] fAC fdAC
 gac:FnOk P w K mg base (CXO P w) 5 fAC fdAC ["web"] (spAC C E7)
 dtm:Df K mg "_law_too_many" sTMy ["_law_web_here"] fTM fdTM
 gtm:FnOk P w K mg base CX0 6 fTM fdTM ["_law_web_here"] (spTMy C)
theorem made {x dx a b:Addr} {H:Hp} {ns:List Str} {ps:List (Str × Str)} {ts:List Addr} {Q:Hp->Prop} {R:XK} (nx:H x=none) (ndx:H dx=none) (L:Lists H a b ns ps ts) (k:∀ H',WebObj C H' x ns ps->Same H H'->Q H') :
  spInit C [.ref x,.ref a,.ref b] (upd (upd H dx (.own x)) x (.ins C dx [])) (fun v H2=>v=.non/\Q H2) R:=by
 have sx:Same H (upd (upd H dx (.own x)) x (.ins C dx [])):=Same.upd_new (same_upd ndx) nx
 exact ⟨x,a,b,ns,ps,ts,rfl,⟨dx,upd_same⟩,L.same sx,fun H7 W7 b7=>⟨rfl,k H7 W7 (Same.but sx b7 nx)⟩⟩
def spJT:Sp:=fun vs H Q _=>∃ p:Addr,vs=[.ref p]/\Row H p/\∀ H',Q (.bl true) H'
abbrev nJ:List Str:=["_law_pot_here","_law_first","_law_names_here","_law_ties"]
theorem scJ:FnScope nJ ["_law_pot_here"] (defScope sJT):=⟨rfl,rfl,rfl,by decide +kernel,rfl,by decide +kernel,by decide +kernel⟩
theorem ok_jt {f:Addr} {fd:FuncData} (F:Fun K "_law_just_told" "_law_just_told" sJT f fd) (B:Tells P w K mg base C E7 fTk fCu fIn fAC fTM fdTk fdCu fdIn fdAC fdTM) (T:Glb mg):FnOk P w K mg base CX0 7 f fd ["_law_pot_here"] spJT:=by
 have GTk:=B.gtk
 have GCu:=B.gcu
 have GI:=B.gi
 have GA:=B.gac
 have GM:=B.gtm
 refine F.ok scJ (fun vs H Q E h=>?_) (fun cdv A outer s H vs Q E hr h=>?_)
 ·obtain ⟨p,rfl,_⟩:=h
  rfl
 ·obtain ⟨p,rfl,hp,k⟩:=h
  have h1:=hr.mono (j:=1) (by decide)
  have h5:=hr.mono (j:=5) (by decide)
  refine ⟨_,pss_cons (ps_set (i:=1) scJ.nd rfl (Or.inr rfl) (pe_call GTk h1 rfl B.dtk.mgf B.dtk.fn.kp B.dtk.b .nil pass0 (pa_cons (pv 0) (pa_cons pe_int pa_nil))))
   (pss_cons (ps_set (i:=2) scJ.nd rfl (Or.inr rfl) (pe_lc ["_law_k"] [1] rfl (compSc (osc:=(defScope sJT).names) (N:=nJ) rfl rfl (by decide +kernel)) (gk_name (by decide))
     (pi_range1 rfl T.range (pa_cons pe_int pa_nil))
     (fun _ _ _=>pg_name (i:=0) (show (["_law_k","_law_first"]:List Str).Nodup by decide +kernel) rfl (Or.inl rfl)) (fun _ _ _=>pifs_nil)
     (fun _ _ _=>pe_ix ix_str pe_str (pe_op op_mod (pe_op op_add (pv 1) (pe_op op_mul pe_int (pv 0))) pe_int) (fun _ _=>rfl))))
   (pss_cons (ps_if (pt_cmpR (op_ne_al 1 (low 1 hr)) (pe_call GA h5 rfl B.dac.mgf B.dac.fn.kp B.dac.b .nil passN (pa_cons (pe_make B.mkw GI h5 rfl B.wc.mgC B.bi .nil pass0 (pa_cons (pe_slice sl_list (pv 2) po_none (po_some pe_int)) (pa_cons (pe_lst pa_nil) pa_nil))) pa_nil))
     (pe_call GCu h1 rfl B.dcu.mgf B.dcu.fn.kp B.dcu.b .nil pass0 (pa_cons (pe_slice sl_list (pv 2) po_none (po_some pe_int)) (pa_cons (pe_lst pa_nil) pa_nil))) (nomark _)) (pss_one (ps_ret pe_bl)) pss_nil)
   (pss_cons (ps_setL (i:=3) ["_law_name"] [2] scJ.nd rfl rfl rfl (compSc (osc:=(defScope sJT).names) (N:=nJ) rfl rfl (by decide +kernel)) (gk_name (by decide)) (pi_list (pe_slice sl_list (pv 2) po_none (po_some pe_int)))
     (fun _ _ _=>pg_name (i:=0) (show (["_law_name","_law_names_here"]:List Str).Nodup by decide +kernel) rfl (Or.inl rfl)) (fun _ _ _=>pifs_nil)
     (fun _ _ _=>pe_tup (pa_cons (pv 0) (pa_cons (pe_ix (r:=rIxL K) ix_list (pv 1) pe_int (fun _ _=>rfl)) pa_nil))))
   (pss_one (ps_ret (pe_and (pe_call GM hr rfl B.dtm.mgf B.dtm.fn.kp B.dtm.b .nil pass0 (pa_cons (pe_make B.mkw GI h5 rfl B.wc.mgC B.bi .nil pass0 (pa_cons (pv 2) (pa_cons (pv 3) pa_nil))) pa_nil))
     (pe_one (pe_call GM hr rfl B.dtm.mgf B.dtm.fn.kp B.dtm.b .nil pass0 (pa_cons (pe_make B.mkw GI h5 rfl B.wc.mgC B.bi .nil pass0 (pa_cons (pv 2) (pa_cons
      (pe_lc ["_law_a","_law_b"] [] rfl (compSc (osc:=(defScope sJT).names) (N:=nJ) rfl rfl (by decide +kernel)) (gk_two (k:=2) (by decide) (by decide)) (pi_list (pv 3))
       (fun _ _ _=>pg_tup (n:=2) rfl (pgs_cons (pg_name (i:=0) (show (["_law_a","_law_b"]:List Str).Nodup by decide +kernel) rfl (Or.inl rfl)) (pgs_cons (pg_name (i:=1) (show (["_law_a","_law_b"]:List Str).Nodup by decide +kernel) rfl (Or.inl rfl)) pgs_nil))) (fun _ _ _=>pifs_nil)
       (fun _ _ _=>pe_tup (pa_cons (pv 1) (pa_cons (pv 0) pa_nil)))) pa_nil))) pa_nil)))))))))
   ,?_⟩
  refine ⟨_,rfl,p,26,rfl,hp,by decide,by decide,fun d H1 da db hp1 b1=>?_⟩
  obtain ⟨f0,rfl⟩:∃ f0:Nat,d=(f0:Int):=⟨d.toNat,by omega⟩
  refine ⟨_,rfl,by decide,by decide,lc_range (fun i ys H2=>H2=H1/\ys=(jn f0 i).map V.str) ⟨rfl,rfl⟩ ?_ ?_ ?_⟩
  ·rintro i ys H2 hi ⟨_,rfl⟩
   rw [List.length_map,jn_len]
   exact Nat.le_trans hi (by decide)
  ·rintro i ys H2 R hi ⟨rfl,rfl⟩ kR
   simp only [tYes,gName,if_true]
   rw [Int.zero_add]
   have cm:CMul 3 (i:Int):=by unfold CMul;omega
   have lm:(f0+3 * i) % 26 < 26:=Nat.mod_lt _ (by decide)
   have hc:atI abc.cps.toList (((f0:Int)+3 * (i:Int)) % 26)=some (abc.cps.toList[(f0+3 * i) % 26]?.getD 0):=by
    rw [show ((f0:Int)+3 * (i:Int)) % 26=(((f0+3 * i) % 26:Nat):Int) by omega]
    exact atI_nat (ltr_at lm)
   refine ⟨_,rfl,_,rfl,_,_,rfl,rfl,cm,_,_,rfl,rfl,_,_,rfl,rfl,(show (0:Int) < 26 by decide),_,_,_,rfl,rfl,by decide +kernel,hc,kR _ _ ⟨rfl,?_⟩⟩
   rw [jn_succ,List.map_append]
   rfl
  rintro ys H2 ⟨rfl,rfl⟩ D nD
  have lD:=upd_same (H:=H2) (a:=D) (o:=.lst ((jn f0 11).map V.str))
  have lD':upd H2 D (.lst ((jn f0 ((11:Int)).toNat).map V.str)) D=some (.lst ((jn f0 11).map V.str)):=lD
  generalize upd H2 D (.lst ((jn f0 ((11:Int)).toNat).map V.str))=H3 at lD' ⊢
  have l11:((jn f0 11).map V.str).length=11:=by rw [List.length_map,jn_len]
  have t10:((jn f0 11).map V.str).take 10=(jn f0 10).map V.str:=by rw [jn_succ,List.map_append,List.take_left' (by rw [List.length_map,jn_len])]
  have mk0:∀ {G:Hp} {a b:Addr} {n:Nat},1<=n->n<=11->G a=some (.lst ((jn f0 n).map V.str))->G b=some (.lst ([].map V.ref))->Lists G a b (jn f0 n) [] []:=fun h1 h2 ha hb=>⟨ha,hb,.nil,jn_good f0 _ h1 h2,(fun _ h=>nomatch h),by decide⟩
  refine ⟨_,rfl,_,rfl,D,_,rfl,SqL.of lD',fun a1 na1=>?_⟩
  rw [cut10 l11,t10]
  have sA:=same_upd (o:=.lst ((jn f0 10).map V.str)) na1
  have hA:=upd_same (H:=H3) (a:=a1) (o:=.lst ((jn f0 10).map V.str))
  generalize upd H3 a1 (.lst ((jn f0 10).map V.str))=H4 at sA hA ⊢
  refine ⟨(by decide),fun b1 nb1=>?_⟩
  have sB:=same_upd (o:=.lst []) nb1
  have hB:upd H4 b1 (.lst []) b1=some (.lst ([].map V.ref)):=upd_same
  have lD5:=sB _ _ (sA _ _ lD')
  have hA5:=sB _ _ hA
  generalize upd H4 b1 (.lst [])=H5 at hB lD5 hA5 ⊢
  intro x1 dx1 nx1 ndx1 _
  refine made nx1 ndx1 (mk0 (by decide) (by decide) hA5 hB) fun H6 W6 s6=>?_
  have z10:(srt (jn f0 10)).Nodup:=srt_nd (jn_nd f0 10 (by decide))
  refine ⟨x1,_,_,rfl,W6,⟨jn_good f0 10 (by decide) (by decide),(fun _ h=>nomatch h),by decide⟩,fun H' m _=>absurd m (ten_few z10 (by rw [srt_len,jn_len])),fun q qs H7 nq hq hold ok s7=>?_⟩
  have lD7:=s7 _ _ (s6 _ _ lD5)
  refine ⟨_,rfl,_,rfl,D,_,rfl,SqL.of lD7,fun a2 na2=>?_⟩
  rw [cut10 l11,t10]
  have sA:=same_upd (o:=.lst ((jn f0 10).map V.str)) na2
  have hA:=upd_same (H:=H7) (a:=a2) (o:=.lst ((jn f0 10).map V.str))
  generalize upd H7 a2 (.lst ((jn f0 10).map V.str))=H8 at sA hA ⊢
  refine ⟨(by decide),fun b2 nb2=>?_⟩
  have sB:=same_upd (o:=.lst []) nb2
  have hB2:upd H8 b2 (.lst []) b2=some (.lst ([].map V.ref)):=upd_same
  have s79:=sA.trans sB
  have hA9:=sB _ _ hA
  generalize upd H8 b2 (.lst [])=H9 at hB2 s79 hA9 ⊢
  refine ⟨a2,b2,_,[],_,rfl,mk0 (by decide) (by decide) hA9 hB2,fun l ds H10 nl hl holdl okd ld s10=>?_⟩
  have s710:=s79.trans s10
  refine ⟨al_tups (s710 _ _ hq) hl (hold_same hold s710) holdl (ok.d.uniq okd),_,rfl,iteF ?_⟩
  have lD10:=s710 _ _ lD7
  have z:ltr ((f0+3 * 10) % 26)=ltr ((f0+30) % 26):=rfl
  have e11:jn f0 11=jn f0 10++[ltr ((f0+30) % 26)]:=jn_succ f0 10
  generalize hz:ltr ((f0+30) % 26)=z at e11
  refine ⟨_,rfl,_,rfl,D,_,rfl,SqL.of lD10,fun a3 na3=>?_⟩
  rw [cut10 l11,t10]
  have sA:=same_upd (o:=.lst ((jn f0 10).map V.str)) na3
  have hA:=upd_same (H:=H10) (a:=a3) (o:=.lst ((jn f0 10).map V.str))
  have lD11:=sA _ _ lD10
  generalize upd H10 a3 (.lst ((jn f0 10).map V.str))=H11 at lD11 hA ⊢
  have at10:((jn f0 11).map V.str)[10]?=some (V.str z):=by
   rw [e11,List.map_append,List.getElem?_append_right (by rw [List.length_map,jn_len];exact Nat.le_refl _),List.length_map,jn_len]
   rfl
  refine ⟨a3,rfl,⟨_,SqL.of hA⟩,lc_list (K:=K) (xs:=(jn f0 10).map V.str) (fun i ys H5=>Same H11 H5/\∃ ts:List Addr,ys=ts.map V.ref/\TiesAt H5 ts (((jn f0 10).take i).map fun y=>(y,z))) ⟨Same.refl _,[],rfl,.nil⟩ ?_ ?_ ?_ ?_⟩
  ·rintro i ys H5 hi ⟨_,ts,rfl,hT⟩
   rw [List.length_map,hT.len,List.length_map,List.length_take,jn_len]
   exact Nat.le_trans (Nat.min_le_right _ _) (by decide)
  ·rintro i ys H5 _ ⟨s5,_⟩
   exact SqL.of (s5 _ _ hA)
  ·rintro i v ys H5 R hv ⟨s5,ts,rfl,hT⟩ kR
   rw [List.getElem?_map] at hv
   obtain ⟨y,ey,rfl⟩:=Option.map_eq_some_iff.mp hv
   simp only [tYes,gName,if_true]
   refine ⟨_,rfl,_,rfl,D,_,_,_,rfl,rfl,SqL.of (s5 _ _ lD11),atI_nat (j:=10) at10,(by show 2<=sizeLine;decide),fun t nt=>?_⟩
   refine kR _ _ ⟨s5.trans (same_upd nt),ts++[t],by simp,?_⟩
   rw [List.take_add_one,ey,List.map_append]
   exact TiesAt.snoc (hT.same (same_upd nt)) upd_same
  rintro ys H12 ⟨s12,ts,rfl,hT⟩ D2 nD2
  rw [List.length_map,jn_len,List.take_of_length_le (by rw [jn_len];exact Nat.le_refl _)] at hT
  have sD:=same_upd (o:=.lst (ts.map V.ref)) nD2
  have hD2:=upd_same (H:=H12) (a:=D2) (o:=.lst (ts.map V.ref))
  have lD13:=sD _ _ (s12 _ _ lD11)
  have hT13:=hT.same sD
  generalize upd H12 D2 (.lst (ts.map V.ref))=H13 at hD2 lD13 hT13 ⊢
  have g11:=jn_good f0 11 (by decide) (by decide)
  have in11:InP (jn f0 11) ((jn f0 10).map fun y=>(y,z)):=fun p hp=>by
   obtain ⟨y,hy,rfl⟩:=List.mem_map.mp hp
   rw [e11]
   exact ⟨List.mem_append_left _ hy,List.mem_append_right _ (List.mem_singleton.mpr rfl)⟩
  have few:((jn f0 10).map fun y=>(y,z)).length<=30:=by rw [List.length_map,jn_len];decide
  obtain ⟨lot1,lot2,lot3⟩:=star_lot (zs:=srt (jn f0 11)) (ten:=jn f0 10) (z:=z) (jn_nd f0 10 (by decide)) (jn_len _ _) (fun h=>by
   have:=g11.nd
   rw [e11] at this
   exact (List.nodup_append.mp this).2.2 z h z (List.mem_singleton.mpr rfl) rfl) (srt_mem.mpr (by rw [e11];exact List.mem_append_right _ (List.mem_singleton.mpr rfl))) (fun y hy=>srt_mem.mpr (by rw [e11];exact List.mem_append_left _ hy))
  refine ⟨_,rfl,_,rfl,?_⟩
  intro x2 dx2 nx2 ndx2 _
  refine made nx2 ndx2 ⟨lD13,hD2,hT13,g11,in11,few⟩ fun H14 W14 s14=>?_
  refine ⟨x2,_,_,_,rfl,W14,⟨g11,in11,few⟩,lot1,lot2,lot3,fun H15 s15=>?_⟩
  have s1315:=s14.trans s15
  have lD15:=s1315 _ _ lD13
  have hD15:=s1315 _ _ hD2
  have hT15:=hT13.same s1315
  refine ⟨_,rfl,iteT ?_⟩
  generalize hps:(jn f0 10).map (fun y=>(y,z))=ps at *
  refine ⟨_,rfl,_,rfl,D2,rfl,⟨_,SqL.of hD15⟩,lc_list (K:=K) (xs:=ts.map V.ref) (fun i ys H5=>Same H15 H5/\∃ us:List Addr,ys=us.map V.ref/\TiesAt H5 us (turn (ps.take i))) ⟨Same.refl _,[],rfl,.nil⟩ ?_ ?_ ?_ ?_⟩
  ·rintro i ys H5 hi ⟨_,us,rfl,hU⟩
   rw [List.length_map,hU.len]
   unfold turn
   rw [List.length_map,List.length_take]
   exact Nat.le_trans (Nat.min_le_right _ _) (Nat.le_trans few (by decide))
  ·rintro i ys H5 _ ⟨s5,_⟩
   exact SqL.of (s5 _ _ hD15)
  ·rintro i v ys H5 R hv ⟨s5,us,rfl,hU⟩ kR
   rw [List.getElem?_map] at hv
   obtain ⟨t,et,rfl⟩:=Option.map_eq_some_iff.mp hv
   obtain ⟨p,ep,ht⟩:=hT15.get et
   refine ⟨t,_,rfl,SqT.of (s5 _ _ ht),rfl,_,_,rfl,_,_,rfl,rfl,?_⟩
   simp only [tYes,if_true]
   refine ⟨_,rfl,_,rfl,(by show 2<=sizeLine;decide),fun u nu=>?_⟩
   refine kR _ _ ⟨s5.trans (same_upd nu),us++[u],by simp,?_⟩
   rw [List.take_add_one,ep]
   unfold turn at hU ⊢
   rw [List.map_append]
   exact TiesAt.snoc (hU.same (same_upd nu)) upd_same
  rintro ys H16 ⟨s16,us,rfl,hU⟩ D3 nD3
  rw [List.length_map,hT15.len,List.take_of_length_le (Nat.le_refl _)] at hU
  have sD:=same_upd (o:=.lst (us.map V.ref)) nD3
  have hD3:=upd_same (H:=H16) (a:=D3) (o:=.lst (us.map V.ref))
  have lD17:=sD _ _ (s16 _ _ lD15)
  have hU17:=hU.same sD
  generalize upd H16 D3 (.lst (us.map V.ref))=H17 at hD3 lD17 hU17 ⊢
  intro x3 dx3 nx3 ndx3 _
  have fewT:(turn ps).length<=30:=by unfold turn;rw [List.length_map];exact few
  have inT:=turn_in in11
  have inS:InP (srt (jn f0 11)) ps:=fun p hp=>⟨srt_mem.mpr (in11 p hp).1,srt_mem.mpr (in11 p hp).2⟩
  obtain ⟨co1,co2⟩:=co_some inS lot1 lot2
  refine made nx3 ndx3 ⟨lD17,hD3,hU17,g11,inT,fewT⟩ fun H18 W18 s18=>?_
  exact ⟨x3,_,_,_,rfl,W18,⟨g11,inT,fewT⟩,co1,co2,by rw [List.length_map];exact lot3,fun H19 _=>k _⟩
end
end K22
namespace L2
open PySem PySem.Spec PyProof.Rows
abbrev TSX:=St->Hp->(Hp->Prop)->XK->Prop
section
variable {X:Cx}
end
section
variable {X:Cx} {tx:TSX} {ts:TS} {x n:Str} {c:Value} {i:Nat} {b₀ st:Stmt} {suite:List Stmt} {pos pos' np hpos:Pos}
end
section
variable {X:Cx} {k:Nat} {f:Addr} {fd:FuncData} {ps ks:List Str} {sp:Sp} {x:Str} {p pos:Pos} {e:Expr} {es:List Expr} {kws:List Keyword} {t tk:TA} {g:List Value->List Value->List Value} {gV:List V->List V->List V}
end
section
variable {X:Cx}
end
section
variable {X:Cx} {tx:TX} {ts:TS} {x n y:Str} {c:Value} {i j:Nat} {e:Expr} {b₀:Stmt} {suite:List Stmt} {pos pos' pn np hpos:Pos}
end
section
variable {prog:Program} {w:World} {A:Around} {E:Value->Shared->Prop} {s:Shared}
end
section
variable {X:Cx} {tg:Expr}
end
theorem vals_rev {xs:List V} {us:List Value} (h:Vals xs us):Vals xs.reverse us.reverse:=by
 induction h with
 | nil=>exact .nil
 | cons r t ih=>rw [List.reverse_cons,List.reverse_cons];exact ih.append (.cons r .nil)
def tRevL (K:PySem.W.Frag) (te:TE) (t3:TO):TE:=fun σ H Q=>te σ H fun x H1=>t3 σ H1 fun o H2=>∃ a xs,o=some (-1)/\x=.ref a/\SqL K H2 a xs/\∀ p,H2 p=none->Q (.ref p) (upd H2 p (.lst xs.reverse))
section
variable {X:Cx}
theorem pe_revL {e st:Expr} {te:TE} {t3:TO} {p2 pos:Pos} (he:PE X e te) (hs:PO X (some st) t3) (hsub:∀ a b,∃ ops,subscripted (.Slice none none (some st) p2) false a b=operate ops (getItem a b):=by intro a b;exact ⟨_,rfl⟩):PE X (.Subscript e (.Slice none none (some st) p2) pos) (tRevL X.K te t3):=by
 intro pins s σ H Q I h
 refine Subscript_ (thn (he pins s σ H _ I h) fun v s1 ⟨x,H1,I1,r1,q1⟩=>?_)
 refine wpAny_Slice ?_
 rw [evalPart_none]
 refine wpAny_pure (wpAny_pure (thn (hs pins s1 σ H1 _ I1 q1) fun vs s2 ⟨o,H2,I2,pl,q2⟩=>?_))
 obtain ⟨a,xs,rfl,rfl,hx,q⟩:=q2
 cases r1
 have I3:Inv X pins σ H2 { s2 with heap:=s2.heap.push { cls:=.type "slice",data:=.fields #[.none,.none,vs] } }:=I2.kept (t':=s2.toks) fun b ob q=>Heap.get?_push_of_some _ q
 obtain ⟨its,r,ht,hz⟩:=I3.list hx
 have hlen:=r.length
 show wpAny (model X.prog X.w) X.A (subscriptTail e (.Slice none none (some st) p2) (.ref a) (.ref s2.heap.objs.size)) (EP X pins σ Q) X.xe { s2 with heap:=s2.heap.push { cls:=.type "slice",data:=.fields #[.none,.none,vs] } }
 obtain ⟨ops,eo⟩:=hsub (.ref a) (.ref s2.heap.objs.size)
 refine tail_any (ops:=ops) ht.isList.typeIs slot_list_getitem.lookup ?_ eo
 refine wpAny_getItem_list_slice ht.isList (Heap.IsSliceOf.new ..) .none .none pl (by simp) ?_ (by rw [List.size_toArray]<;>omega)
 rw [PySem.W.krv_pick]
 refine ⟨.ref _,_,I3.laid (t':=s2.toks) (o:=.lst xs.reverse) (fun b ob q=>Heap.get?_push_of_some _ q) (Nat.le_refl _) ?_,rfl,q _ (I3.hok.fresh (Nat.le_refl _))⟩
 exact ⟨by rw [List.length_reverse];exact hz,_,0,vals_rev r,Heap.get?_push_size _ rfl⟩
end
section
variable {prog:Program} {w:World} {A:Around} {E:Value->Shared->Prop} {s:Shared}
end
end L2
namespace K22
open PySem PySem.Spec PyProof.Rows L2 L3
abbrev sLaw22:Stmt:=top 49 -- law
theorem GoodP.rev {ns:List Str} (g:GoodP ns):GoodP ns.reverse:=⟨by rw [List.length_reverse];exact g.one,by rw [List.length_reverse];exact g.few,fun z hz=>g.nms z (List.mem_reverse.mp hz),(List.reverse_perm ns).nodup_iff.mpr g.nd⟩
theorem srt_rev {ns:List Str} (g:GoodP ns):srt ns.reverse=srt ns:=srt_same g.rev.nd g.nd fun x=>List.mem_reverse
theorem but_upd {H:Hp} {p:Addr} {o:HO}:But p H (upd H p o):=fun b v e n=>by rw [L2.upd_ne n];exact e
theorem hold_but {H H':Hp} {p:Addr} {xs:List V} {qs:List (Addr × List Str)} (h:Hold H qs) (b:But p H H') (hp:H p=some (.lst xs)):Hold H' qs:=fun q hq=>b _ _ (h q hq) (ne_of (h q hq) hp (by intro z;cases z))
section
variable {P:Program} {w:World} {K:PySem.W.Frag} {mg:Str->Option Value} {base:Heap}
variable {C E7 fTk fCu fIn fAC fTM fPo fWb fJT fAT:Addr} {fdTk fdCu fdIn fdAC fdTM fdPo fdWb fdJT fdAT:FuncData}
structure Tells2 (P:Program) (w:World) (K:PySem.W.Frag) (mg:Str->Option Value) (base:Heap) (fPo fWb fJT fAT:Addr) (fdPo fdWb fdJT fdAT:FuncData):Prop where
 dpo:Df K mg "_law_pot" sPot ["_law_script","_law_k"] fPo fdPo
 gpo:FnOk P w K mg base CX0 1 fPo fdPo ["_law_script","_law_k"] (spPot (K:=K))
 dwb:Df K mg "_law_web" sWeb ["_law_pot_here"] fWb fdWb
 gwb:FnOk P w K mg base CX0 4 fWb fdWb ["_law_pot_here"] spWeb
 djt:Df K mg "_law_just_told" sJT ["_law_pot_here"] fJT fdJT
 gjt:FnOk P w K mg base CX0 7 fJT fdJT ["_law_pot_here"] spJT
 dat_:Df K mg "_law_are_tuples" sATs nAT fAT fdAT
 gat:FnOk P w K mg base CX0 1 fAT fdAT nAT spATs
def spLaw (K:PySem.W.Frag):Sp:=fun vs H Q _=>∃ (a:Addr) (ns:List Int),vs=[.ref a]/\SqL K H a (ns.map V.int)/\ns.length<=63/\∀ H',Q (.bl true) H'
abbrev nL:List Str:=["_law_script","_law_pot_here","_law_names_here","_law_ties","_law_handed","_law_web_here","_law_back","_law_due","_law_found"]
theorem scL:FnScope nL ["_law_script"] (defScope sLaw22):=⟨rfl,rfl,rfl,by decide +kernel,rfl,by decide +kernel,by decide +kernel⟩
theorem ok_law {f:Addr} {fd:FuncData} (F:Fun K "law" "law" sLaw22 f fd) (B:Tells P w K mg base C E7 fTk fCu fIn fAC fTM fdTk fdCu fdIn fdAC fdTM) (B2:Tells2 P w K mg base fPo fWb fJT fAT fdPo fdWb fdJT fdAT) (T:Glb mg):FnOk P w K mg base CX0 8 f fd ["_law_script"] (spLaw K):=by
 have GTk:=B.gtk
 have GCu:=B.gcu
 have GI:=B.gi
 have GA:=B.gac
 have GM:=B.gtm
 have GPo:=B2.gpo
 have GWb:=B2.gwb
 have GJ:=B2.gjt
 have GT:=B2.gat
 refine F.ok scL (fun vs H Q E h=>?_) (fun cdv A outer s H vs Q E hr h=>?_)
 ·obtain ⟨a,ns,rfl,_⟩:=h
  rfl
 ·obtain ⟨a0,ns,rfl,hS,hlen,k⟩:=h
  have h1:=hr.mono (j:=1) (by decide)
  have h4:=hr.mono (j:=4) (by decide)
  have h5:=hr.mono (j:=5) (by decide)
  have h6:=hr.mono (j:=6) (by decide)
  have h7:=hr.mono (j:=7) (by decide)
  have hu1:(cxOf CX0 P w K mg base nL "law" (defScope sLaw22) f cdv A outer s H E).A.units+1 < cLine:=low 0 hr
  refine ⟨_,pss_cons (ps_set (i:=1) scL.nd rfl (Or.inl rfl) (pe_call GPo h1 rfl B2.dpo.mgf B2.dpo.fn.kp B2.dpo.b .nil pass0 (pa_cons (pv 0) (pa_cons pe_int pa_nil))))
   (pss_cons (ps_if (pt_cmpR op_eq (pe_call GTk h1 rfl B.dtk.mgf B.dtk.fn.kp B.dtk.b .nil pass0 (pa_cons (pv 1) (pa_cons pe_int pa_nil))) pe_int (nomark _)) (pss_one (ps_ret (pe_call GJ h7 rfl B2.djt.mgf B2.djt.fn.kp B2.djt.b .nil pass0 (pa_cons (pv 1) pa_nil)))) pss_nil)
   (pss_cons (ps_asg (pe_call GWb h4 rfl B2.dwb.mgf B2.dwb.fn.kp B2.dwb.b .nil pass0 (pa_cons (pv 1) pa_nil)) (pg_tup rfl (pgs_cons (pg_name (i:=2) scL.nd rfl (Or.inr rfl)) (pgs_cons (pg_name (i:=3) scL.nd rfl (Or.inl rfl)) pgs_nil))))
   (pss_cons (ps_set (i:=4) scL.nd rfl (Or.inl rfl) (pe_lst (pa_cons (pe_callTy call_list_of (by rfl) T.list PyProof.Rows.boot_list (pa_cons (pv 2) pa_nil)) (pa_cons (pe_callTy call_list_of (by rfl) T.list PyProof.Rows.boot_list (pa_cons (pv 3) pa_nil)) pa_nil))))
   (pss_cons (ps_set (i:=5) scL.nd rfl (Or.inl rfl) (pe_make B.mkw GI h5 rfl B.wc.mgC B.bi .nil pass0 (pa_cons (pe_ix ix_list (pv 4) pe_int (fun _ _=>rfl)) (pa_cons (pe_ix ix_list (pv 4) pe_int (fun _ _=>rfl)) pa_nil))))
   (pss_cons (ps_set (i:=6) scL.nd rfl (Or.inl rfl) (pe_make B.mkw GI h5 rfl B.wc.mgC B.bi .nil pass0 (pa_cons (pe_revL (pv 2) (po_some (pe_un un_neg pe_int))) (pa_cons
      (pe_lc ["_law_a","_law_b"] [] rfl (compSc (osc:=(defScope sLaw22).names) (N:=nL) rfl rfl (by decide +kernel)) (gk_two (k:=2) (by decide) (by decide)) (pi_list (pv 3))
       (fun _ _ _=>pg_tup (n:=2) rfl (pgs_cons (pg_name (i:=0) (show (["_law_a","_law_b"]:List Str).Nodup by decide +kernel) rfl (Or.inl rfl)) (pgs_cons (pg_name (i:=1) (show (["_law_a","_law_b"]:List Str).Nodup by decide +kernel) rfl (Or.inl rfl)) pgs_nil))) (fun _ _ _=>pifs_nil)
       (fun _ _ _=>pe_tup (pa_cons (pv 1) (pa_cons (pv 0) pa_nil)))) pa_nil))))
   (pss_cons (ps_set (i:=7) scL.nd rfl (Or.inl rfl) (pe_call GCu h1 rfl B.dcu.mgf B.dcu.fn.kp B.dcu.b .nil pass0 (pa_cons (pv 2) (pa_cons (pv 3) pa_nil))))
   (pss_cons (ps_if (pt_cmpR op_gt (pe_callB call_len_seq (by rfl) T.len PySem.boot_len (pa_cons (pv 7) pa_nil)) pe_int (nomark _)) (pss_one (ps_ret (pe_and (pe_call GM h6 rfl B.dtm.mgf B.dtm.fn.kp B.dtm.b .nil pass0 (pa_cons (pv 5) pa_nil)) (pe_one (pe_call GM h6 rfl B.dtm.mgf B.dtm.fn.kp B.dtm.b .nil pass0 (pa_cons (pv 6) pa_nil)))))) pss_nil)
   (pss_cons (ps_expr (pe_bm0 PySem.F.plainAttrs_list PySem.F.slot_list_clear PySem.F.type_list_clear mt_clear (pe_ix ix_list (pv 4) pe_int (fun _ _=>rfl))))
   (pss_cons (ps_expr (pe_bm PySem.F.plainAttrs_list PySem.F.slot_list_append PySem.F.type_list_append mt_append (pe_ix ix_list (pv 4) pe_int (fun _ _=>rfl)) (pa_cons (pe_tup (pa_cons pe_str (pa_cons pe_str pa_nil))) pa_nil)))
   (pss_cons (ps_set (i:=8) scL.nd rfl (Or.inl rfl) (pe_call GA h5 rfl B.dac.mgf B.dac.fn.kp B.dac.b .nil passN (pa_cons (pv 5) pa_nil)))
   (pss_cons (ps_if (PW.pt (pw_or (pt_not (pt_val (pe_call GT h1 rfl B2.dat_.mgf B2.dat_.fn.kp B2.dat_.b .nil pass0 (pa_cons (pv 8) pa_nil)) (fun _=>rfl))) (pw_or1 (pt_cmpR (op_ne_al 1 (low 1 hr)) (pv 8) (pv 7) (nomark _))))) (pss_one (ps_ret pe_bl)) pss_nil)
   (pss_cons (ps_if (pt_cmpR (op_ne_al 1 (low 1 hr)) (pe_call GA h5 rfl B.dac.mgf B.dac.fn.kp B.dac.b .nil passN (pa_cons (pv 6) pa_nil))
     (pe_callB call_sorted_ltL (by rfl) T.sorted boot_sorted (pa_cons (pe_lc ["_law_cut"] [2] rfl (compSc (osc:=(defScope sLaw22).names) (N:=nL) rfl rfl (by decide +kernel)) (gk_name (by decide)) (pi_list (pv 7))
      (fun _ _ _=>pg_name (i:=0) (show (["_law_cut","_law_names_here"]:List Str).Nodup by decide +kernel) rfl (Or.inr rfl)) (fun _ _ _=>pifs_nil)
      (fun _ _ _=>pe_callTy (r:=rTupO K) call_tuple_of (by rfl) T.tuple PyProof.Rows.boot_tuple (pa_cons
       (pe_lc ["_law_name"] [0] rfl (compSc (osc:=[(".0",.local),("_law_cut",.cell),("tuple",.globalImplicit),("sorted",.globalImplicit),("_law_names_here",.cell)]) (N:=["_law_cut","_law_names_here"]) rfl rfl (by decide +kernel)) (gk_name (by decide)) (pi_listK' (K:=K) rfl (pe_callB (r:=fun xs H Q=>∃ (p:Addr) (zs:List Str),xs=[.ref p]/\SqL K H p (zs.map V.str)/\zs.length < 64/\∀ l,H l=none->Q (.ref l) (upd H l (.lst ((srt zs).map V.str)))) call_sorted_txt (by rfl) T.sorted boot_sorted (pa_cons (pv 1) pa_nil)))
        (fun _ _ _=>pg_name (i:=0) (show (["_law_name","_law_cut"]:List Str).Nodup by decide +kernel) rfl (Or.inl rfl))
        (fun _ _ _=>pifs_one (pt_cmpR (r:=rIn K true) op_notIn_seq (pv 0) (pv 1) rfl))
        (fun _ _ _=>pv 0)) pa_nil))) pa_nil)) (nomark _)) (pss_one (ps_ret pe_bl)) pss_nil)
   (pss_cons (ps_expr (pe_bm0 PySem.F.plainAttrs_list PySem.F.slot_list_clear PySem.F.type_list_clear mt_clear (pv 8)))
   (pss_one (ps_ret (pe_cmpR (op_eq_al 1 (low 1 hr)) (pe_call GA h5 rfl B.dac.mgf B.dac.fn.kp B.dac.b .nil passN (pa_cons (pv 5) pa_nil)) (pv 7) (nomark _)))))))))))))))))
   ,?_⟩
  refine ⟨_,rfl,a0,ns,0,rfl,hS,hlen,fun p H1 np row s1=>?_⟩
  refine ⟨_,rfl,p,8,rfl,row,by decide,by decide,fun d H2 da db row2 b2=>?_⟩
  refine ⟨rfl,_,rfl,?_⟩
  refine ite2 (fun _=>⟨_,rfl,p,rfl,row2,k⟩) (fun _=>?_)
  refine ⟨_,rfl,p,rfl,row2,fun t a b ms ps ts H3 L ht na nb nt nab row3 b3=>?_⟩
  refine ⟨t,_,rfl,SqT.of ht,rfl,_,_,rfl,_,_,rfl,rfl,?_⟩
  have good:=L.good
  have ins:=L.ins
  have few:=L.few
  have lts:ts.length<=30:=by rw [L.hT.len];exact few
  refine ⟨_,rfl,a,_,rfl,.inl (SqL.of L.ha),fun a1 na1=>?_⟩
  have s1:=same_upd (o:=.lst (ms.map V.str)) na1
  have hA:=upd_same (H:=H3) (a:=a1) (o:=.lst (ms.map V.str))
  have L1:=L.same s1
  have n1:a1≠a:=fun e=>by rw [e,L.ha] at na1;cases na1
  have n2:a1≠b:=fun e=>by rw [e,L.hb] at na1;cases na1
  generalize upd H3 a1 (.lst (ms.map V.str))=H4 at hA L1 ⊢
  refine ⟨_,rfl,b,_,rfl,.inl (SqL.of L1.hb),fun b1 nb1=>?_⟩
  have s1:=same_upd (o:=.lst (ts.map V.ref)) nb1
  have hB:=upd_same (H:=H4) (a:=b1) (o:=.lst (ts.map V.ref))
  have L2':=L1.same s1
  have n3:b1≠a:=fun e=>by rw [e,L1.ha] at nb1;cases nb1
  have n4:b1≠b:=fun e=>by rw [e,L1.hb] at nb1;cases nb1
  have n5:b1≠a1:=fun e=>by rw [e,hA] at nb1;cases nb1
  replace hA:=s1 _ _ hA
  generalize upd H4 b1 (.lst (ts.map V.ref))=H5 at hA hB L2' ⊢
  refine ⟨(by show 2<=sizeLine;decide),fun h nh=>?_⟩
  have s1:=same_upd (o:=.lst [V.ref a1,V.ref b1]) nh
  have hh:=upd_same (H:=H5) (a:=h) (o:=.lst [V.ref a1,V.ref b1])
  have L3':=L2'.same s1
  have n6:a1≠h:=fun e=>by rw [<- e,hA] at nh;cases nh
  have n7:b1≠h:=fun e=>by rw [<- e,hB] at nh;cases nh
  replace hA:=s1 _ _ hA
  replace hB:=s1 _ _ hB
  generalize upd H5 h (.lst [V.ref a1,V.ref b1])=H6 at hA hB hh L3' ⊢
  refine ⟨_,rfl,h,_,_,_,rfl,rfl,SqL.of hh,atI_nat (j:=0) rfl,_,rfl,h,_,_,_,rfl,rfl,SqL.of hh,atI_nat (j:=1) rfl,?_⟩
  intro x1 dx1 nx1 ndx1 _
  refine made nx1 ndx1 ⟨hA,hB,L3'.hT,good,ins,few⟩ fun H7 W1 s7=>?_
  replace hA:=s7 _ _ hA
  replace hB:=s7 _ _ hB
  replace hh:=s7 _ _ hh
  have L4:=L3'.same s7
  refine ⟨_,rfl,_,rfl,_,rfl,a,_,rfl,rfl,SqL.of L4.ha,fun r nr=>?_⟩
  have s8:=same_upd (o:=.lst (ms.map V.str).reverse) nr
  have hR:upd H7 r (.lst (ms.map V.str).reverse) r=some (.lst (ms.reverse.map V.str)):=by rw [upd_same,List.map_reverse]
  generalize upd H7 r (.lst (ms.map V.str).reverse)=H8 at s8 hR ⊢
  replace hA:=s8 _ _ hA
  replace hB:=s8 _ _ hB
  replace hh:=s8 _ _ hh
  replace W1:=W1.same s8
  have L5:=L4.same s8
  refine ⟨_,rfl,b,rfl,⟨_,SqL.of L5.hb⟩,lc_list (K:=K) (xs:=ts.map V.ref) (fun i ys H5=>Same H8 H5/\∃ us:List Addr,ys=us.map V.ref/\TiesAt H5 us (turn (ps.take i))) ⟨Same.refl _,[],rfl,.nil⟩ ?_ ?_ ?_ ?_⟩
  ·rintro i ys H5 hi ⟨_,us,rfl,hU⟩
   rw [List.length_map,hU.len]
   unfold turn
   rw [List.length_map,List.length_take]
   exact Nat.le_trans (Nat.min_le_right _ _) (Nat.le_trans few (by decide))
  ·rintro i ys H5 _ ⟨s5,_⟩
   exact SqL.of (s5 _ _ L5.hb)
  ·rintro i v ys H5 R hv ⟨s5,us,rfl,hU⟩ kR
   rw [List.getElem?_map] at hv
   obtain ⟨t,et,rfl⟩:=Option.map_eq_some_iff.mp hv
   obtain ⟨p,ep,ht⟩:=L5.hT.get et
   refine ⟨t,_,rfl,SqT.of (s5 _ _ ht),rfl,_,_,rfl,_,_,rfl,rfl,?_⟩
   simp only [tYes,if_true]
   refine ⟨_,rfl,_,rfl,(by show 2<=sizeLine;decide),fun u nu=>?_⟩
   refine kR _ _ ⟨s5.trans (same_upd nu),us++[u],by simp,?_⟩
   rw [List.take_add_one,ep]
   unfold turn at hU ⊢
   rw [List.map_append]
   exact TiesAt.snoc (hU.same (same_upd nu)) upd_same
  rintro ys H9 ⟨s9,us,rfl,hU⟩ D3 nD3
  rw [List.length_map,L5.hT.len,List.take_of_length_le (Nat.le_refl _)] at hU
  have sD:=same_upd (o:=.lst (us.map V.ref)) nD3
  have hD3:=upd_same (H:=H9) (a:=D3) (o:=.lst (us.map V.ref))
  have hU2:=hU.same sD
  have s10:=s9.trans sD
  generalize upd H9 D3 (.lst (us.map V.ref))=H10 at hD3 hU2 s10 ⊢
  have fewT:(turn ps).length<=30:=by unfold turn;rw [List.length_map];exact few
  have insT:InP ms.reverse (turn ps):=fun p hp=>by
   have:=turn_in ins p hp
   exact ⟨List.mem_reverse.mpr this.1,List.mem_reverse.mpr this.2⟩
  intro x2 dx2 nx2 ndx2 _
  refine made nx2 ndx2 ⟨s10 _ _ hR,hD3,hU2,good.rev,insT,fewT⟩ fun H11 W2 s11=>?_
  replace s11:=s10.trans s11
  replace hA:=s11 _ _ hA
  replace hB:=s11 _ _ hB
  replace hh:=s11 _ _ hh
  replace W1:=W1.same s11
  have L6:=L5.same s11
  have eS:=srt_rev good
  have inS:InP (srt ms) ps:=fun p hp=>⟨srt_mem.mpr (ins p hp).1,srt_mem.mpr (ins p hp).2⟩
  refine ⟨_,rfl,_,rfl,a,b,ms,ts,ps,rfl,L6,fun l ds H12 nl hl hold dd ld s12=>?_⟩
  have n8:a1≠l:=fun e=>by rw [<- e,hA] at nl;cases nl
  have n9:b1≠l:=fun e=>by rw [<- e,hB] at nl;cases nl
  replace hA:=s12 _ _ hA
  replace hB:=s12 _ _ hB
  replace hh:=s12 _ _ hh
  replace W1:=W1.same s12
  replace W2:=W2.same s12
  have L7:=L6.same s12
  refine ⟨_,rfl,l,_,rfl,.inl (SqL.of hl),_,_,rfl,rfl,_,rfl,?_⟩
  rw [List.length_map]
  refine ite2 (fun c=>?_) (fun c=>?_)
  ·have lot:1022 < (ds.map (·.2)).length:=by rw [List.length_map];have:=of_decide_eq_true c;omega
   obtain ⟨co1,co2⟩:=co_some inS dd.nd fun X hX=>(dd.me X).mp hX
   refine ⟨_,rfl,x1,ms,ps,_,rfl,W1,⟨good,ins,few⟩,dd.nd,(fun X hX=>(dd.me X).mp hX),lot,fun H13 s13=>⟨_,rfl,iteT ?_⟩⟩
   exact ⟨_,rfl,x2,_,_,_,rfl,W2.same s13,⟨good.rev,insT,fewT⟩,co1,(by rw [eS];exact co2),by rw [List.length_map];exact lot,fun H14 _=>k _⟩
  have le22:(ds.map (·.2)).length<=1022:=by
   rw [List.length_map]
   have c':¬ _:=fun z=>c (decide_eq_true z)
   omega
  have hN:=L7.ha
  refine ⟨_,rfl,h,_,_,_,rfl,rfl,SqL.of hh,atI_nat (j:=0) rfl,.inl ⟨rfl,_,SqL.of hA⟩,a1,_,rfl,rfl,hA,?_⟩
  have b13:But a1 H12 (upd H12 a1 (.lst [])):=but_upd
  generalize upd H12 a1 (.lst [])=H13 at b13 ⊢
  replace W1:=W1.but b13 hA
  replace W2:=W2.but b13 hA
  replace hB:=b13 _ _ hB n5
  replace hh:=b13 _ _ hh (Ne.symm n6)
  replace hN:=b13 _ _ hN (Ne.symm n1)
  replace hl:=b13 _ _ hl (Ne.symm n8)
  replace hold:=hold_but hold b13 hA
  refine ⟨_,rfl,h,_,_,_,rfl,rfl,SqL.of hh,atI_nat (j:=1) rfl,.inl ⟨rfl,_,SqL.of hB⟩,(by show 2<=sizeLine;decide),fun tp ntp=>?_⟩
  have s14:=same_upd (o:=.tup [V.str "a",V.str "a"]) ntp
  generalize upd H13 tp (.tup [V.str "a",V.str "a"])=H14 at s14 ⊢
  replace W1:=W1.same s14
  replace W2:=W2.same s14
  replace hB:=s14 _ _ hB
  replace hN:=s14 _ _ hN
  replace hl:=s14 _ _ hl
  replace hold:=hold_same hold s14
  refine ⟨b1,_,_,rfl,rfl,hB,(by rw [List.length_map];exact small1000 (by omega)),?_⟩
  have b15:But b1 H14 (upd H14 b1 (.lst (ts.map V.ref++[V.ref tp]))):=but_upd
  generalize upd H14 b1 (.lst (ts.map V.ref++[V.ref tp]))=H15 at b15 ⊢
  replace W1:=W1.but b15 hB
  replace W2:=W2.but b15 hB
  replace hN:=b15 _ _ hN (Ne.symm n3)
  replace hl:=b15 _ _ hl (Ne.symm n9)
  replace hold:=hold_but hold b15 hB
  have gw:GoodW ms ps:=⟨good,ins,few⟩
  have no1:¬ Many (srt ms) ps:=not_many (fun X hX=>(dd.me X).mpr hX) le22
  have no2:¬ Many (srt ms.reverse) (turn ps):=by
   rw [eS]
   exact not_many (fun X hX=>(co_all inS dd X).mpr hX) (by rw [List.length_map];exact le22)
  refine ⟨_,rfl,x1,ms,ps,rfl,W1,gw,fun H' m _=>absurd m no1,fun q qs H16 nq hq holdq okq s16=>?_⟩
  have n10:l≠q:=fun e=>by rw [<- e,hl] at nq;cases nq
  replace W1:=W1.same s16
  replace W2:=W2.same s16
  replace hN:=s16 _ _ hN
  replace hl:=s16 _ _ hl
  replace hold:=hold_same hold s16
  refine ⟨_,rfl,q,qs,rfl,hq,holdq,(by have:=okq.few;rw [List.length_map] at this;omega),fun H17 s17=>?_⟩
  replace W1:=W1.same s17
  replace W2:=W2.same s17
  replace hN:=s17 _ _ hN
  replace hl:=s17 _ _ hl
  replace hold:=hold_same hold s17
  replace hq:=s17 _ _ hq
  replace holdq:=hold_same holdq s17
  refine ⟨_,rfl,iteF ⟨_,rfl,_,rfl,al_tups hq hl holdq hold (okq.d.uniq dd),_,rfl,iteF ?_⟩⟩
  refine ⟨_,rfl,x2,_,_,rfl,W2,⟨good.rev,insT,fewT⟩,fun H' m _=>absurd m no2,fun q2 qs2 H18 nq2 hq2 hold2 ok2 s18=>?_⟩
  replace W1:=W1.same s18
  replace hN:=s18 _ _ hN
  replace hl:=s18 _ _ hl
  replace hold:=hold_same hold s18
  replace hq:=s18 _ _ hq
  have big:10000<=sizeLine:=by decide
  have ld':ds.length<=1022:=by rw [List.length_map] at le22;exact le22
  refine ⟨_,rfl,l,rfl,⟨_,SqL.of hl⟩,lc_list (K:=K) (xs:=ds.map fun q=>V.ref q.1) (fun i ys HH=>Same H18 HH/\∃ rs:List (Addr × List Str),ys=rs.map (fun q=>V.ref q.1)/\Hold HH rs/\rs.map (·.2)=(ds.take i).map fun d=>co (srt ms) d.2) ⟨Same.refl _,[],rfl,(fun _ h=>nomatch h),rfl⟩ ?_ ?_ ?_ ?_⟩
  ·rintro i ys HH hi ⟨_,rs,rfl,_,e⟩
   have:=congrArg List.length e
   rw [List.length_map,List.length_map,List.length_take] at this
   rw [List.length_map]
   omega
  ·rintro i ys HH _ ⟨sH,_⟩
   exact SqL.of (sH _ _ hl)
  ·rintro i v ys HH R hv ⟨sH,rs,rfl,holdr,ers⟩ kR
   rw [List.getElem?_map] at hv
   obtain ⟨u,eu,rfl⟩:=Option.map_eq_some_iff.mp hv
   simp only [gName,tYes,if_true]
   refine ⟨_,rfl,a,ms,rfl,SqL.of (sH _ _ hN),Nat.lt_of_le_of_lt good.few (by decide),fun l5 nl5=>?_⟩
   have s5:=same_upd (o:=.lst ((srt ms).map V.str)) nl5
   have h5':=upd_same (H:=HH) (a:=l5) (o:=.lst ((srt ms).map V.str))
   generalize upd HH l5 (.lst ((srt ms).map V.str))=H5 at s5 h5' ⊢
   have hu:=s5 _ _ (sH _ _ (hold u (List.mem_of_getElem? eu)))
   refine ⟨l5,rfl,⟨_,SqL.of h5'⟩,lc_list (K:=K) (xs:=(srt ms).map V.str) (fun m zs H6=>H6=H5/\zs=(co ((srt ms).take m) u.2).map V.str) ⟨rfl,by simp [co]⟩ ?_ ?_ ?_ ?_⟩
   ·rintro m zs H6 hm ⟨_,rfl⟩
    rw [List.length_map]
    unfold co
    refine Nat.le_trans (List.length_filter_le _ _) ?_
    rw [List.length_take,srt_len]
    have:=good.few
    omega
   ·rintro m zs H6 _ ⟨rfl,_⟩
    exact SqL.of h5'
   ·rintro m v zs H6 R2 hv ⟨rfl,rfl⟩ kR2
    rw [List.getElem?_map] at hv
    obtain ⟨y,ey,rfl⟩:=Option.map_eq_some_iff.mp hv
    simp only [gName]
    have fin:(co ((srt ms).take (m+1)) u.2).map V.str=(co ((srt ms).take m) u.2).map V.str++(if (!decide (y∈u.2))=true then [V.str y] else []):=by
     unfold co
     rw [List.take_add_one,ey,List.filter_append,List.map_append]
     congr 1
     rw [Option.toList_some,List.filter_cons]
     split<;>rfl
    refine ⟨_,rfl,_,rfl,u.1,_,rfl,.inr (SqT.of hu),rfl,flat_strs _,_,rfl,?_⟩
    simp only [if_true]
    rw [inV_str]
    refine ite2 (fun c=>⟨_,rfl,kR2 _ _ ⟨rfl,?_⟩⟩) (fun c=>kR2 _ _ ⟨rfl,?_⟩)
    ·rw [fin,if_pos c]
    ·rw [fin,if_neg c,List.append_nil]
   rintro zs H6 ⟨rfl,rfl⟩ D nD
   rw [List.length_map,List.take_length]
   have sD:=same_upd (o:=.lst ((co (srt ms) u.2).map V.str)) nD
   have hD:=upd_same (H:=H6) (a:=D) (o:=.lst ((co (srt ms) u.2).map V.str))
   generalize upd H6 D (.lst ((co (srt ms) u.2).map V.str))=H7 at sD hD ⊢
   refine ⟨D,_,rfl,.inl ⟨SqL.of hD,fun t nt=>kR _ _ ⟨sH.trans (s5.trans (sD.trans (same_upd nt))),rs++[(t,co (srt ms) u.2)],by simp,?_,?_⟩⟩⟩
   ·exact hold_snoc (hold_same (hold_same (hold_same holdr s5) sD) (same_upd nt)) upd_same
   ·rw [List.map_append,ers,List.take_add_one,eu,List.map_append]
    rfl
  rintro ys H19 ⟨s19,rs,rfl,holdr,ers⟩ D nD
  rw [List.length_map,List.take_length] at ers
  have sD:=same_upd (o:=.lst (rs.map fun q=>V.ref q.1)) nD
  have hD:=upd_same (H:=H19) (a:=D) (o:=.lst (rs.map fun q=>V.ref q.1))
  replace holdr:=hold_same holdr sD
  have s20:=s19.trans sD
  generalize upd H19 D (.lst (rs.map fun q=>V.ref q.1))=H20 at hD holdr s20 ⊢
  have ers':rs.map (·.2)=(ds.map (·.2)).map (co (srt ms)):=by rw [ers,List.map_map];rfl
  have lr:rs.length<=10000:=by have:=congrArg List.length ers;rw [List.length_map,List.length_map] at this;omega
  have me2:∀ X,X∈rs.map (·.2) ↔ CutX (srt ms) (turn ps) X:=fun X=>by rw [ers'];exact co_all inS dd X
  have ne0:∀ x∈rs,x.2≠[]:=fun x hx e=>by
   have:=((me2 x.2).mp (List.mem_map.mpr ⟨x,hx,rfl⟩)).one
   rw [e] at this
   exact absurd this (by decide)
  refine ⟨D,rs,rfl,SqL.of hD,holdr,ne0,lr,fun q3 qs3 nq3 pm up=>?_⟩
  have s21:=same_upd (o:=.lst (qs3.map fun q=>V.ref q.1)) nq3
  have hq3:=upd_same (H:=H20) (a:=q3) (o:=.lst (qs3.map fun q=>V.ref q.1))
  have s22:=s20.trans s21
  have hold3:Hold (upd H20 q3 (.lst (qs3.map fun q=>V.ref q.1))) qs3:=fun x hx=>s21 _ _ (holdr x (pm.mem_iff.mp hx))
  generalize upd H20 q3 (.lst (qs3.map fun q=>V.ref q.1))=H21 at hq3 s22 hold3 ⊢
  have nd2:(rs.map (·.2)).Nodup:=by rw [ers'];exact (co_some inS dd.nd fun X hX=>(dd.me X).mp hX).1
  have d3:CutsD (srt ms) (turn ps) (qs3.map (·.2)):=⟨(pm.map (·.2)).nodup_iff.mpr nd2,fun X=>by rw [(pm.map (·.2)).mem_iff];exact me2 X,List.pairwise_map.mpr up⟩
  have ok2':=ok2.d
  rw [eS] at ok2'
  refine ⟨al_tups (s22 _ _ hq2) hq3 (hold_same hold2 s22) hold3 (ok2'.uniq d3),_,rfl,iteF ?_⟩
  replace W1:=W1.same s22
  replace hl:=s22 _ _ hl
  replace hold:=hold_same hold s22
  replace hq:=s22 _ _ hq
  refine ⟨_,rfl,.inl ⟨rfl,_,SqL.of hq⟩,q,_,rfl,rfl,hq,?_⟩
  have b23:But q H21 (upd H21 q (.lst [])):=but_upd
  generalize upd H21 q (.lst [])=H23 at b23 ⊢
  replace W1:=W1.but b23 hq
  replace hl:=b23 _ _ hl n10
  replace hold:=hold_but hold b23 hq
  refine ⟨_,rfl,x1,ms,ps,rfl,W1,gw,fun H' m _=>absurd m no1,fun q4 qs4 H24 nq4 hq4 hold4 ok4 s24=>?_⟩
  exact ⟨_,rfl,al_tups hq4 (s24 _ _ hl) hold4 (hold_same hold s24) (ok4.d.uniq dd),k _⟩
end
theorem exm_mk {K:PySem.W.Frag} {t c:Value} (h1:PySem.W.subIn K c (.type "BaseException")=some true) (h2:PySem.W.kitOne K t c=some true) (h3:(t == c)=false):PySem.W.exmOne K t c=some true:=by
 unfold PySem.W.exmOne
 unfold PySem.W.kitOne at h2
 rw [h3,if_neg Bool.false_ne_true] at h2
 rw [if_pos (by rw [h1];rfl),h2]
section
variable {P:Program} {w:World} {K:PySem.W.Frag} {mg:Str->Option Value} {base:Heap}
variable {C E0 E7 A1 A2 A3 A4 A5 A6 B1 B2 B3 B4 fP fS fIn fN fA fTi f1 f2 fCk fL fTu fSp fRe fRs fSt fBo fAC:Addr} {fdP fdS fdIn fdN fdA fdTi fd1 fd2 fdCk fdL fdTu fdSp fdRe fdRs fdSt fdBo fdAC:FuncData}
variable {f fPo fTk fWo fNa fLT fWb fCu fTM fAT fJT:Addr} {fd fdPo fdTk fdWo fdNa fdLT fdWb fdCu fdTM fdAT fdJT:FuncData}
theorem law_all (F:Fun K "law" "law" sLaw22 f fd) (FI:Fun K "__init__" "Web.__init__" sInit fIn fdIn) (MkW:Mk K C fIn) (bI:Binds K fdIn ["self","places","ties"] []) (DN:Df K mg "is_name" sName ["thing"] fN fdN) (DA:Df K mg "is_among" sAmong ["places","thing"] fA fdA) (DTi:Df K mg "is_tie" sTie ["places","thing"] fTi fdTi) (D1:Df K mg "check_places" sChkP ["places"] f1 fd1) (D2:Df K mg "check_ties" sChkT ["places","ties"] f2 fd2) (DCk:Df K mg "check_place" sChkPl ["web","place"] fCk fdCk)
  (M:Mt K mg C fP fS fdP fdS) (X:Errs K mg E0 E7 A1 A2 A3 A4 A5 A6 B1 B2 B3 B4)
  (DL:Df K mg "leads" sLeads ["places","ties"] fL fdL) (DTu:Df K mg "turned_pairs" sTurned ["ties"] fTu fdTu) (DSp:Df K mg "spread" sSpread ["steps","start"] fSp fdSp) (DRe:Df K mg "reached" sReached ["web","place"] fRe fdRe) (DRs:Df K mg "reachers" sReachers ["web","place"] fRs fdRs)
  (DSt:Df K mg "settled" sStd aStd fSt fdSt) (DBo:Df K mg "both_settled" sBoth aBo fBo fdBo) (DAC:Df K mg "all_cuts" sAll ["web"] fAC fdAC)
  (DPo:Df K mg "_law_pot" sPot ["_law_script","_law_k"] fPo fdPo) (DTk:Df K mg "_law_take" sTake ["_law_pot_here","_law_many"] fTk fdTk) (DWo:Df K mg "_law_word" sWord ["_law_pot_here"] fWo fdWo) (DNa:Df K mg "_law_names" sNames ["_law_pot_here","_law_most"] fNa fdNa) (DLT:Df K mg "_law_tie" sLTie ["_law_pot_here","_law_names_here","_law_sort"] fLT fdLT) (DWb:Df K mg "_law_web" sWeb ["_law_pot_here"] fWb fdWb)
  (DCu:Df K mg "_law_cuts" sCuts ["_law_names_here","_law_ties"] fCu fdCu) (DTM:Df K mg "_law_too_many" sTMy ["_law_web_here"] fTM fdTM) (DAT:Df K mg "_law_are_tuples" sATs nAT fAT fdAT) (DJT:Df K mg "_law_just_told" sJT ["_law_pot_here"] fJT fdJT)
  (ab:mg "abs" = none) (hd:mg "dict" = none) (hm:∃ t,mg "MOST_CUTS" = some (.int 1022 t)) (T:Glb mg):FnOk P w K mg base CX0 8 f fd ["_law_script"] (spLaw K):=by
 have GI:FnOk P w K mg base CX0 4 fIn fdIn ["self","places","ties"] (spInit C):=ok_init FI M.wc DN DA DTi D1 D2 T
 have GRe:FnOk P w K mg base CX0 3 fRe fdRe ["web","place"] (spRe C):=ok_rea DRe.fn M DA DCk DL DSp T
 have GRs:FnOk P w K mg base CX0 3 fRs fdRs ["web","place"] (spRs C):=ok_rs DRs.fn M DA DCk DL DTu DSp T
 have GBo:FnOk P w K mg base CX0 4 fBo fdBo aBo (spBoth C):=ok_both DBo.fn DRe GRe DRs GRs DSt hd T
 have GAC:FnOk P w K mg base (CXO P w) 5 fAC fdAC ["web"] (spAC C E7):=ok_ac DAC.fn M DBo GBo hm X.x7 T
 have GTM:FnOk P w K mg base CX0 6 fTM fdTM ["_law_web_here"] (spTMy C):=ok_tmy DTM.fn X DAC GAC T
 have B:Tells P w K mg base C E7 fTk fCu fIn fAC fTM fdTk fdCu fdIn fdAC fdTM:=⟨DTk,ok_take DTk.fn T,DCu,ok_cuts DCu.fn T,M.wc,MkW,bI,GI,DAC,GAC,DTM,GTM⟩
 exact ok_law F B ⟨DPo,ok_pot DPo.fn T ab,DWb,ok_web DWb.fn DTk DWo DNa DLT T,DJT,ok_jt DJT.fn B T,DAT,ok_ats DAT.fn T⟩ T
end
open PySem PySem.Spec PyProof.Rows L2
theorem all_mk {l:PySem.W.OpenLaw} {w:World} {K:PySem.W.Frag} {h:Heap} {mg:Str->Option Value} {fa:Addr} {C:Addr} {f1:Addr} {od1 an1:Option Addr} {sl1:Array (Option Value)} {oc1 kV1 dc1 pm1 cd1 ct1:Value} {f2:Addr} {od2 an2:Option Addr} {sl2:Array (Option Value)} {oc2 kV2 dc2 pm2 cd2 ct2:Value} {f3:Addr} {od3 an3:Option Addr} {sl3:Array (Option Value)} {oc3 kV3 dc3 pm3 cd3 ct3:Value} {f4:Addr} {od4 an4:Option Addr} {sl4:Array (Option Value)} {oc4 kV4 dc4 pm4 cd4 ct4:Value} {f5:Addr} {od5 an5:Option Addr} {sl5:Array (Option Value)} {oc5 kV5 dc5 pm5 cd5 ct5:Value} {f6:Addr} {od6 an6:Option Addr} {sl6:Array (Option Value)} {oc6 kV6 dc6 pm6 cd6 ct6:Value} {f7:Addr} {od7 an7:Option Addr} {sl7:Array (Option Value)} {oc7 kV7 dc7 pm7 cd7 ct7:Value} {f8:Addr} {od8 an8:Option Addr} {sl8:Array (Option Value)} {oc8 kV8 dc8 pm8 cd8 ct8:Value} {f9:Addr} {od9 an9:Option Addr} {sl9:Array (Option Value)} {oc9 kV9 dc9 pm9 cd9 ct9:Value} {f10:Addr} {od10 an10:Option Addr} {sl10:Array (Option Value)} {oc10 kV10 dc10 pm10 cd10 ct10:Value} {f11:Addr} {od11 an11:Option Addr} {sl11:Array (Option Value)} {oc11 kV11 dc11 pm11 cd11 ct11:Value} {f12:Addr} {od12 an12:Option Addr} {sl12:Array (Option Value)} {oc12 kV12 dc12 pm12 cd12 ct12:Value} {f13:Addr} {od13 an13:Option Addr} {sl13:Array (Option Value)} {oc13 kV13 dc13 pm13 cd13 ct13:Value} {f14:Addr} {od14 an14:Option Addr} {sl14:Array (Option Value)} {oc14 kV14 dc14 pm14 cd14 ct14:Value} {f15:Addr} {od15 an15:Option Addr} {sl15:Array (Option Value)} {oc15 kV15 dc15 pm15 cd15 ct15:Value} {f16:Addr} {od16 an16:Option Addr} {sl16:Array (Option Value)} {oc16 kV16 dc16 pm16 cd16 ct16:Value} {f17:Addr} {od17 an17:Option Addr} {sl17:Array (Option Value)} {oc17 kV17 dc17 pm17 cd17 ct17:Value} {f18:Addr} {od18 an18:Option Addr} {sl18:Array (Option Value)} {oc18 kV18 dc18 pm18 cd18 ct18:Value} {f19:Addr} {od19 an19:Option Addr} {sl19:Array (Option Value)} {oc19 kV19 dc19 pm19 cd19 ct19:Value} {f20:Addr} {od20 an20:Option Addr} {sl20:Array (Option Value)} {oc20 kV20 dc20 pm20 cd20 ct20:Value} {f21:Addr} {od21 an21:Option Addr} {sl21:Array (Option Value)} {oc21 kV21 dc21 pm21 cd21 ct21:Value} {f22:Addr} {od22 an22:Option Addr} {sl22:Array (Option Value)} {oc22 kV22 dc22 pm22 cd22 ct22:Value} {f23:Addr} {od23 an23:Option Addr} {sl23:Array (Option Value)} {oc23 kV23 dc23 pm23 cd23 ct23:Value} {f24:Addr} {od24 an24:Option Addr} {sl24:Array (Option Value)} {oc24 kV24 dc24 pm24 cd24 ct24:Value} {f25:Addr} {od25 an25:Option Addr} {sl25:Array (Option Value)} {oc25 kV25 dc25 pm25 cd25 ct25:Value} {f26:Addr} {od26 an26:Option Addr} {sl26:Array (Option Value)} {oc26 kV26 dc26 pm26 cd26 ct26:Value} {f27:Addr} {od27 an27:Option Addr} {sl27:Array (Option Value)} {oc27 kV27 dc27 pm27 cd27 ct27:Value} {f28:Addr} {od28 an28:Option Addr} {sl28:Array (Option Value)} {oc28 kV28 dc28 pm28 cd28 ct28:Value} {E0:Addr} {E7:Addr} {A1:Addr} {A2:Addr} {A3:Addr} {A4:Addr} {A5:Addr} {A6:Addr} {B1:Addr} {B2:Addr} {B3:Addr} {B4:Addr} {t_LONGEST:Tok} {t_MOST_PLACES:Tok} {t_MOST_TIES:Tok} {t_MOST_CUTS:Tok} (X:K.In h) (G:h.Ns mainGlobals mg) (hfa:mg "law" = some (.ref fa))
  (aC:W.nsIn K mainGlobals "Web" = some (some (.ref C)))
  (a1:W.findIn K (.ref C) "__init__" = some (some (.ref f1)))
  (i1:W.isFn K (.ref f1)=true)
  (l1:K.lookup f1=some ⟨oc1,od1,.func (PySem.W.fnOf "__init__" "Web.__init__" (defArgs sInit) (defBody sInit) (defScope sInit) .none kV1 dc1 pm1 an1 cd1 ct1),sl1⟩)
  (c1:W.codeIn K cd1 "Web.__init__" = true)
  (k1:W.keepIn K (.ref f1)=true)
  (a2:W.findIn K (.ref C) "places" = some (some (.ref f2)))
  (i2:W.isFn K (.ref f2)=true)
  (l2:K.lookup f2=some ⟨oc2,od2,.func (PySem.W.fnOf "places" "Web.places" (defArgs sPlaces) (defBody sPlaces) (defScope sPlaces) .none kV2 dc2 pm2 an2 cd2 ct2),sl2⟩)
  (c2:W.codeIn K cd2 "Web.places" = true)
  (k2:W.keepIn K (.ref f2)=true)
  (a3:W.findIn K (.ref C) "ties" = some (some (.ref f3)))
  (i3:W.isFn K (.ref f3)=true)
  (l3:K.lookup f3=some ⟨oc3,od3,.func (PySem.W.fnOf "ties" "Web.ties" (defArgs sTies) (defBody sTies) (defScope sTies) .none kV3 dc3 pm3 an3 cd3 ct3),sl3⟩)
  (c3:W.codeIn K cd3 "Web.ties" = true)
  (k3:W.keepIn K (.ref f3)=true)
  (pg:W.plainGet K C Str.empty=true)
  (hd:W.hasDictIn K C=true)
  (po:W.plainOver K C=true)
  (sa:W.findIn K (.ref C) "__setattr__" = some (some (.builtin "object.__setattr__")))
  (mk:W.makesIn K C=true)
  (kc:W.keepIn K (.ref C)=true)
  (nA0:W.findIn K (.ref C) "kept_places" = some none)
  (nA1:W.findIn K (.ref C) "kept_ties" = some none)
  (a4:W.nsIn K mainGlobals "is_name" = some (some (.ref f4)))
  (l4:K.lookup f4=some ⟨oc4,od4,.func (PySem.W.fnOf "is_name" "is_name" (defArgs sName) (defBody sName) (defScope sName) .none kV4 dc4 pm4 an4 cd4 ct4),sl4⟩)
  (c4:W.codeIn K cd4 "is_name" = true)
  (k4:W.keepIn K (.ref f4)=true)
  (a5:W.nsIn K mainGlobals "check_places" = some (some (.ref f5)))
  (l5:K.lookup f5=some ⟨oc5,od5,.func (PySem.W.fnOf "check_places" "check_places" (defArgs sChkP) (defBody sChkP) (defScope sChkP) .none kV5 dc5 pm5 an5 cd5 ct5),sl5⟩)
  (c5:W.codeIn K cd5 "check_places" = true)
  (k5:W.keepIn K (.ref f5)=true)
  (a6:W.nsIn K mainGlobals "is_among" = some (some (.ref f6)))
  (l6:K.lookup f6=some ⟨oc6,od6,.func (PySem.W.fnOf "is_among" "is_among" (defArgs sAmong) (defBody sAmong) (defScope sAmong) .none kV6 dc6 pm6 an6 cd6 ct6),sl6⟩)
  (c6:W.codeIn K cd6 "is_among" = true)
  (k6:W.keepIn K (.ref f6)=true)
  (a7:W.nsIn K mainGlobals "is_tie" = some (some (.ref f7)))
  (l7:K.lookup f7=some ⟨oc7,od7,.func (PySem.W.fnOf "is_tie" "is_tie" (defArgs sTie) (defBody sTie) (defScope sTie) .none kV7 dc7 pm7 an7 cd7 ct7),sl7⟩)
  (c7:W.codeIn K cd7 "is_tie" = true)
  (k7:W.keepIn K (.ref f7)=true)
  (a8:W.nsIn K mainGlobals "check_ties" = some (some (.ref f8)))
  (l8:K.lookup f8=some ⟨oc8,od8,.func (PySem.W.fnOf "check_ties" "check_ties" (defArgs sChkT) (defBody sChkT) (defScope sChkT) .none kV8 dc8 pm8 an8 cd8 ct8),sl8⟩)
  (c8:W.codeIn K cd8 "check_ties" = true)
  (k8:W.keepIn K (.ref f8)=true)
  (a9:W.nsIn K mainGlobals "check_place" = some (some (.ref f9)))
  (l9:K.lookup f9=some ⟨oc9,od9,.func (PySem.W.fnOf "check_place" "check_place" (defArgs sChkPl) (defBody sChkPl) (defScope sChkPl) .none kV9 dc9 pm9 an9 cd9 ct9),sl9⟩)
  (c9:W.codeIn K cd9 "check_place" = true)
  (k9:W.keepIn K (.ref f9)=true)
  (a10:W.nsIn K mainGlobals "leads" = some (some (.ref f10)))
  (l10:K.lookup f10=some ⟨oc10,od10,.func (PySem.W.fnOf "leads" "leads" (defArgs sLeads) (defBody sLeads) (defScope sLeads) .none kV10 dc10 pm10 an10 cd10 ct10),sl10⟩)
  (c10:W.codeIn K cd10 "leads" = true)
  (k10:W.keepIn K (.ref f10)=true)
  (a11:W.nsIn K mainGlobals "turned_pairs" = some (some (.ref f11)))
  (l11:K.lookup f11=some ⟨oc11,od11,.func (PySem.W.fnOf "turned_pairs" "turned_pairs" (defArgs sTurned) (defBody sTurned) (defScope sTurned) .none kV11 dc11 pm11 an11 cd11 ct11),sl11⟩)
  (c11:W.codeIn K cd11 "turned_pairs" = true)
  (k11:W.keepIn K (.ref f11)=true)
  (a12:W.nsIn K mainGlobals "spread" = some (some (.ref f12)))
  (l12:K.lookup f12=some ⟨oc12,od12,.func (PySem.W.fnOf "spread" "spread" (defArgs sSpread) (defBody sSpread) (defScope sSpread) .none kV12 dc12 pm12 an12 cd12 ct12),sl12⟩)
  (c12:W.codeIn K cd12 "spread" = true)
  (k12:W.keepIn K (.ref f12)=true)
  (a13:W.nsIn K mainGlobals "reached" = some (some (.ref f13)))
  (l13:K.lookup f13=some ⟨oc13,od13,.func (PySem.W.fnOf "reached" "reached" (defArgs sReached) (defBody sReached) (defScope sReached) .none kV13 dc13 pm13 an13 cd13 ct13),sl13⟩)
  (c13:W.codeIn K cd13 "reached" = true)
  (k13:W.keepIn K (.ref f13)=true)
  (a14:W.nsIn K mainGlobals "reachers" = some (some (.ref f14)))
  (l14:K.lookup f14=some ⟨oc14,od14,.func (PySem.W.fnOf "reachers" "reachers" (defArgs sReachers) (defBody sReachers) (defScope sReachers) .none kV14 dc14 pm14 an14 cd14 ct14),sl14⟩)
  (c14:W.codeIn K cd14 "reachers" = true)
  (k14:W.keepIn K (.ref f14)=true)
  (a15:W.nsIn K mainGlobals "settled" = some (some (.ref f15)))
  (l15:K.lookup f15=some ⟨oc15,od15,.func (PySem.W.fnOf "settled" "settled" (defArgs sStd) (defBody sStd) (defScope sStd) .none kV15 dc15 pm15 an15 cd15 ct15),sl15⟩)
  (c15:W.codeIn K cd15 "settled" = true)
  (k15:W.keepIn K (.ref f15)=true)
  (a16:W.nsIn K mainGlobals "both_settled" = some (some (.ref f16)))
  (l16:K.lookup f16=some ⟨oc16,od16,.func (PySem.W.fnOf "both_settled" "both_settled" (defArgs sBoth) (defBody sBoth) (defScope sBoth) .none kV16 dc16 pm16 an16 cd16 ct16),sl16⟩)
  (c16:W.codeIn K cd16 "both_settled" = true)
  (k16:W.keepIn K (.ref f16)=true)
  (a17:W.nsIn K mainGlobals "all_cuts" = some (some (.ref f17)))
  (l17:K.lookup f17=some ⟨oc17,od17,.func (PySem.W.fnOf "all_cuts" "all_cuts" (defArgs sAll) (defBody sAll) (defScope sAll) .none kV17 dc17 pm17 an17 cd17 ct17),sl17⟩)
  (c17:W.codeIn K cd17 "all_cuts" = true)
  (k17:W.keepIn K (.ref f17)=true)
  (a18:W.nsIn K mainGlobals "_law_pot" = some (some (.ref f18)))
  (l18:K.lookup f18=some ⟨oc18,od18,.func (PySem.W.fnOf "_law_pot" "_law_pot" (defArgs sPot) (defBody sPot) (defScope sPot) .none kV18 dc18 pm18 an18 cd18 ct18),sl18⟩)
  (c18:W.codeIn K cd18 "_law_pot" = true)
  (k18:W.keepIn K (.ref f18)=true)
  (a19:W.nsIn K mainGlobals "_law_take" = some (some (.ref f19)))
  (l19:K.lookup f19=some ⟨oc19,od19,.func (PySem.W.fnOf "_law_take" "_law_take" (defArgs sTake) (defBody sTake) (defScope sTake) .none kV19 dc19 pm19 an19 cd19 ct19),sl19⟩)
  (c19:W.codeIn K cd19 "_law_take" = true)
  (k19:W.keepIn K (.ref f19)=true)
  (a20:W.nsIn K mainGlobals "_law_word" = some (some (.ref f20)))
  (l20:K.lookup f20=some ⟨oc20,od20,.func (PySem.W.fnOf "_law_word" "_law_word" (defArgs sWord) (defBody sWord) (defScope sWord) .none kV20 dc20 pm20 an20 cd20 ct20),sl20⟩)
  (c20:W.codeIn K cd20 "_law_word" = true)
  (k20:W.keepIn K (.ref f20)=true)
  (a21:W.nsIn K mainGlobals "_law_names" = some (some (.ref f21)))
  (l21:K.lookup f21=some ⟨oc21,od21,.func (PySem.W.fnOf "_law_names" "_law_names" (defArgs sNames) (defBody sNames) (defScope sNames) .none kV21 dc21 pm21 an21 cd21 ct21),sl21⟩)
  (c21:W.codeIn K cd21 "_law_names" = true)
  (k21:W.keepIn K (.ref f21)=true)
  (a22:W.nsIn K mainGlobals "_law_tie" = some (some (.ref f22)))
  (l22:K.lookup f22=some ⟨oc22,od22,.func (PySem.W.fnOf "_law_tie" "_law_tie" (defArgs sLTie) (defBody sLTie) (defScope sLTie) .none kV22 dc22 pm22 an22 cd22 ct22),sl22⟩)
  (c22:W.codeIn K cd22 "_law_tie" = true)
  (k22:W.keepIn K (.ref f22)=true)
  (a23:W.nsIn K mainGlobals "_law_web" = some (some (.ref f23)))
  (l23:K.lookup f23=some ⟨oc23,od23,.func (PySem.W.fnOf "_law_web" "_law_web" (defArgs sWeb) (defBody sWeb) (defScope sWeb) .none kV23 dc23 pm23 an23 cd23 ct23),sl23⟩)
  (c23:W.codeIn K cd23 "_law_web" = true)
  (k23:W.keepIn K (.ref f23)=true)
  (a24:W.nsIn K mainGlobals "_law_cuts" = some (some (.ref f24)))
  (l24:K.lookup f24=some ⟨oc24,od24,.func (PySem.W.fnOf "_law_cuts" "_law_cuts" (defArgs sCuts) (defBody sCuts) (defScope sCuts) .none kV24 dc24 pm24 an24 cd24 ct24),sl24⟩)
  (c24:W.codeIn K cd24 "_law_cuts" = true)
  (k24:W.keepIn K (.ref f24)=true)
  (a25:W.nsIn K mainGlobals "_law_too_many" = some (some (.ref f25)))
  (l25:K.lookup f25=some ⟨oc25,od25,.func (PySem.W.fnOf "_law_too_many" "_law_too_many" (defArgs sTMy) (defBody sTMy) (defScope sTMy) .none kV25 dc25 pm25 an25 cd25 ct25),sl25⟩)
  (c25:W.codeIn K cd25 "_law_too_many" = true)
  (k25:W.keepIn K (.ref f25)=true)
  (a26:W.nsIn K mainGlobals "_law_are_tuples" = some (some (.ref f26)))
  (l26:K.lookup f26=some ⟨oc26,od26,.func (PySem.W.fnOf "_law_are_tuples" "_law_are_tuples" (defArgs sATs) (defBody sATs) (defScope sATs) .none kV26 dc26 pm26 an26 cd26 ct26),sl26⟩)
  (c26:W.codeIn K cd26 "_law_are_tuples" = true)
  (k26:W.keepIn K (.ref f26)=true)
  (a27:W.nsIn K mainGlobals "_law_just_told" = some (some (.ref f27)))
  (l27:K.lookup f27=some ⟨oc27,od27,.func (PySem.W.fnOf "_law_just_told" "_law_just_told" (defArgs sJT) (defBody sJT) (defScope sJT) .none kV27 dc27 pm27 an27 cd27 ct27),sl27⟩)
  (c27:W.codeIn K cd27 "_law_just_told" = true)
  (k27:W.keepIn K (.ref f27)=true)
  (a28:W.nsIn K mainGlobals "law" = some (some (.ref f28)))
  (l28:K.lookup f28=some ⟨oc28,od28,.func (PySem.W.fnOf "law" "law" (defArgs sLaw22) (defBody sLaw22) (defScope sLaw22) .none kV28 dc28 pm28 an28 cd28 ct28),sl28⟩)
  (c28:W.codeIn K cd28 "law" = true)
  (k28:W.keepIn K (.ref f28)=true)
  (xE0:W.nsIn K mainGlobals "WebError" = some (some (.ref E0)))
  (xE7:W.nsIn K mainGlobals "TooMany" = some (some (.ref E7)))
  (yE7:W.excIn K E7 [.type "ValueError",.type "Exception",.type "BaseException",.type "object"] "ValueError.__new__" = true)
  (zE7_0:W.isClsIn K E7=true)
  (zE7_1:W.mroIn K E7 (.type "object")=some true)
  (zE7_2:W.mroIn K E7 (.type "BaseException")=some true)
  (zE7_3:W.findIn K (.ref E7) "__getattribute__" = some (some (.builtin "BaseException.__getattribute__")))
  (zE7_4:W.findIn K (.ref E7) "__getattr__" = some none)
  (zE7_5:W.findIn K (.ref E7) "__class__" = some (some (.builtin "object.__class__")))
  (xA1:W.nsIn K mainGlobals "Apart" = some (some (.ref A1)))
  (xA2:W.nsIn K mainGlobals "Crossed" = some (some (.ref A2)))
  (xA3:W.nsIn K mainGlobals "NoCut" = some (some (.ref A3)))
  (xA4:W.nsIn K mainGlobals "NoPlace" = some (some (.ref A4)))
  (xA5:W.nsIn K mainGlobals "NoStep" = some (some (.ref A5)))
  (xA6:W.nsIn K mainGlobals "NoText" = some (some (.ref A6)))
  (xB1:W.nsIn K mainGlobals "NoTie" = some (some (.ref B1)))
  (xB2:W.nsIn K mainGlobals "NoTree" = some (some (.ref B2)))
  (xB3:W.nsIn K mainGlobals "NoWeb" = some (some (.ref B3)))
  (xB4:W.nsIn K mainGlobals "Twice" = some (some (.ref B4)))
  (g_divmod:W.nsIn K mainGlobals "divmod" = some none)
  (g_len:W.nsIn K mainGlobals "len" = some none)
  (g_all:W.nsIn K mainGlobals "all" = some none)
  (g_isinstance:W.nsIn K mainGlobals "isinstance" = some none)
  (g_str:W.nsIn K mainGlobals "str" = some none)
  (g_range:W.nsIn K mainGlobals "range" = some none)
  (g_max:W.nsIn K mainGlobals "max" = some none)
  (g_min:W.nsIn K mainGlobals "min" = some none)
  (g_bool:W.nsIn K mainGlobals "bool" = some none)
  (g_list:W.nsIn K mainGlobals "list" = some none)
  (g_int:W.nsIn K mainGlobals "int" = some none)
  (g_tuple:W.nsIn K mainGlobals "tuple" = some none)
  (g_set:W.nsIn K mainGlobals "set" = some none)
  (g_sorted:W.nsIn K mainGlobals "sorted" = some none)
  (g_abs:W.nsIn K mainGlobals "abs" = some none)
  (g_dict:W.nsIn K mainGlobals "dict" = some none)
  (g_ValueError:W.nsIn K mainGlobals "ValueError" = some none)
  (g_LONGEST:W.nsIn K mainGlobals "LONGEST" = some (some (.int 8 t_LONGEST)))
  (g_MOST_PLACES:W.nsIn K mainGlobals "MOST_PLACES" = some (some (.int 12 t_MOST_PLACES)))
  (g_MOST_TIES:W.nsIn K mainGlobals "MOST_TIES" = some (some (.int 30 t_MOST_TIES)))
  (g_MOST_CUTS:W.nsIn K mainGlobals "MOST_CUTS" = some (some (.int 1022 t_MOST_CUTS)))
  (q1a:W.subIn K (.ref E0) (.type "BaseException")=some true)
  (q1b:W.kitOne K (.ref E7) (.ref E0)=some true)
  (q1c:(Value.ref E7 == Value.ref E0)=false)
  (q2:W.kitOne K (.ref E7) (.ref E7)=some true)
  (q3:W.kitOne K (.ref E7) (.type "ValueError")=some true)
  (q4:W.kitAny K (.ref E7) [.ref A1,.ref A2,.ref A3,.ref A4,.ref A5,.ref A6]=some false)
  (q5:W.kitAny K (.ref E7) [.ref B1,.ref B2,.ref B3,.ref B4]=some false)
  : ∃ fd:FuncData,(∀ (s:Shared) (v:Value),BindsTo s fd ⟨[v],[]⟩ [("_law_script",v)])/\∀ base:Heap,K.In base->base.Ns mainGlobals mg->FnOk l.prog w K mg base CX0 8 fa fd ["_law_script"] (spLaw K):=by
 have e:=hfa.symm.trans (PySem.W.mg_of X G a28)
 cases e
 have F_init:=fun_mk (st:=sInit) l1 c1 k1
 have B_init:=F_init.binds (ps:=["self","places","ties"]) fun _ _ _ _ _ _ us hl=>match us,hl with | [_,_,_],_=>rfl
 have Mm_init:Meth K C "__init__" f1:=⟨a1,i1,k1⟩
 have F_places:=fun_mk (st:=sPlaces) l2 c2 k2
 have B_places:=F_places.binds (ps:=["self"]) fun _ _ _ _ _ _ us hl=>match us,hl with | [_],_=>rfl
 have Mm_places:Meth K C "places" f2:=⟨a2,i2,k2⟩
 have F_ties:=fun_mk (st:=sTies) l3 c3 k3
 have B_ties:=F_ties.binds (ps:=["self"]) fun _ _ _ _ _ _ us hl=>match us,hl with | [_],_=>rfl
 have Mm_ties:Meth K C "ties" f3:=⟨a3,i3,k3⟩
 have W:WC K mg C:=⟨⟨pg,hd,po,sa⟩,nA0,nA1,PySem.W.mg_of X G aC⟩
 have MkC:Mk K C f1:=⟨mk,a1,i1,kc⟩
 have F_name:=fun_mk (st:=sName) l4 c4 k4
 have B_name:=F_name.binds (ps:=["thing"]) fun _ _ _ _ _ _ us hl=>match us,hl with | [_],_=>rfl
 have D_name:Df K mg "is_name" sName ["thing"] f4 _:=⟨F_name,PySem.W.mg_of X G a4,B_name⟩
 have F_chkP:=fun_mk (st:=sChkP) l5 c5 k5
 have B_chkP:=F_chkP.binds (ps:=["places"]) fun _ _ _ _ _ _ us hl=>match us,hl with | [_],_=>rfl
 have D_chkP:Df K mg "check_places" sChkP ["places"] f5 _:=⟨F_chkP,PySem.W.mg_of X G a5,B_chkP⟩
 have F_among:=fun_mk (st:=sAmong) l6 c6 k6
 have B_among:=F_among.binds (ps:=["places","thing"]) fun _ _ _ _ _ _ us hl=>match us,hl with | [_,_],_=>rfl
 have D_among:Df K mg "is_among" sAmong ["places","thing"] f6 _:=⟨F_among,PySem.W.mg_of X G a6,B_among⟩
 have F_tie:=fun_mk (st:=sTie) l7 c7 k7
 have B_tie:=F_tie.binds (ps:=["places","thing"]) fun _ _ _ _ _ _ us hl=>match us,hl with | [_,_],_=>rfl
 have D_tie:Df K mg "is_tie" sTie ["places","thing"] f7 _:=⟨F_tie,PySem.W.mg_of X G a7,B_tie⟩
 have F_chkT:=fun_mk (st:=sChkT) l8 c8 k8
 have B_chkT:=F_chkT.binds (ps:=["places","ties"]) fun _ _ _ _ _ _ us hl=>match us,hl with | [_,_],_=>rfl
 have D_chkT:Df K mg "check_ties" sChkT ["places","ties"] f8 _:=⟨F_chkT,PySem.W.mg_of X G a8,B_chkT⟩
 have F_ckp:=fun_mk (st:=sChkPl) l9 c9 k9
 have B_ckp:=F_ckp.binds (ps:=["web","place"]) fun _ _ _ _ _ _ us hl=>match us,hl with | [_,_],_=>rfl
 have D_ckp:Df K mg "check_place" sChkPl ["web","place"] f9 _:=⟨F_ckp,PySem.W.mg_of X G a9,B_ckp⟩
 have F_leads:=fun_mk (st:=sLeads) l10 c10 k10
 have B_leads:=F_leads.binds (ps:=["places","ties"]) fun _ _ _ _ _ _ us hl=>match us,hl with | [_,_],_=>rfl
 have D_leads:Df K mg "leads" sLeads ["places","ties"] f10 _:=⟨F_leads,PySem.W.mg_of X G a10,B_leads⟩
 have F_turned:=fun_mk (st:=sTurned) l11 c11 k11
 have B_turned:=F_turned.binds (ps:=["ties"]) fun _ _ _ _ _ _ us hl=>match us,hl with | [_],_=>rfl
 have D_turned:Df K mg "turned_pairs" sTurned ["ties"] f11 _:=⟨F_turned,PySem.W.mg_of X G a11,B_turned⟩
 have F_spread:=fun_mk (st:=sSpread) l12 c12 k12
 have B_spread:=F_spread.binds (ps:=["steps","start"]) fun _ _ _ _ _ _ us hl=>match us,hl with | [_,_],_=>rfl
 have D_spread:Df K mg "spread" sSpread ["steps","start"] f12 _:=⟨F_spread,PySem.W.mg_of X G a12,B_spread⟩
 have F_rea:=fun_mk (st:=sReached) l13 c13 k13
 have B_rea:=F_rea.binds (ps:=["web","place"]) fun _ _ _ _ _ _ us hl=>match us,hl with | [_,_],_=>rfl
 have D_rea:Df K mg "reached" sReached ["web","place"] f13 _:=⟨F_rea,PySem.W.mg_of X G a13,B_rea⟩
 have F_rs:=fun_mk (st:=sReachers) l14 c14 k14
 have B_rs:=F_rs.binds (ps:=["web","place"]) fun _ _ _ _ _ _ us hl=>match us,hl with | [_,_],_=>rfl
 have D_rs:Df K mg "reachers" sReachers ["web","place"] f14 _:=⟨F_rs,PySem.W.mg_of X G a14,B_rs⟩
 have F_std:=fun_mk (st:=sStd) l15 c15 k15
 have B_std:=F_std.binds (ps:=["state","places","answer"]) fun _ _ _ _ _ _ us hl=>match us,hl with | [_,_,_],_=>rfl
 have D_std:Df K mg "settled" sStd ["state","places","answer"] f15 _:=⟨F_std,PySem.W.mg_of X G a15,B_std⟩
 have F_both:=fun_mk (st:=sBoth) l16 c16 k16
 have B_both:=F_both.binds (ps:=["web","states","place"]) fun _ _ _ _ _ _ us hl=>match us,hl with | [_,_,_],_=>rfl
 have D_both:Df K mg "both_settled" sBoth ["web","states","place"] f16 _:=⟨F_both,PySem.W.mg_of X G a16,B_both⟩
 have F_ac:=fun_mk (st:=sAll) l17 c17 k17
 have B_ac:=F_ac.binds (ps:=["web"]) fun _ _ _ _ _ _ us hl=>match us,hl with | [_],_=>rfl
 have D_ac:Df K mg "all_cuts" sAll ["web"] f17 _:=⟨F_ac,PySem.W.mg_of X G a17,B_ac⟩
 have F_pot:=fun_mk (st:=sPot) l18 c18 k18
 have B_pot:=F_pot.binds (ps:=["_law_script","_law_k"]) fun _ _ _ _ _ _ us hl=>match us,hl with | [_,_],_=>rfl
 have D_pot:Df K mg "_law_pot" sPot ["_law_script","_law_k"] f18 _:=⟨F_pot,PySem.W.mg_of X G a18,B_pot⟩
 have F_take:=fun_mk (st:=sTake) l19 c19 k19
 have B_take:=F_take.binds (ps:=["_law_pot_here","_law_many"]) fun _ _ _ _ _ _ us hl=>match us,hl with | [_,_],_=>rfl
 have D_take:Df K mg "_law_take" sTake ["_law_pot_here","_law_many"] f19 _:=⟨F_take,PySem.W.mg_of X G a19,B_take⟩
 have F_word:=fun_mk (st:=sWord) l20 c20 k20
 have B_word:=F_word.binds (ps:=["_law_pot_here"]) fun _ _ _ _ _ _ us hl=>match us,hl with | [_],_=>rfl
 have D_word:Df K mg "_law_word" sWord ["_law_pot_here"] f20 _:=⟨F_word,PySem.W.mg_of X G a20,B_word⟩
 have F_names:=fun_mk (st:=sNames) l21 c21 k21
 have B_names:=F_names.binds (ps:=["_law_pot_here","_law_most"]) fun _ _ _ _ _ _ us hl=>match us,hl with | [_,_],_=>rfl
 have D_names:Df K mg "_law_names" sNames ["_law_pot_here","_law_most"] f21 _:=⟨F_names,PySem.W.mg_of X G a21,B_names⟩
 have F_ltie:=fun_mk (st:=sLTie) l22 c22 k22
 have B_ltie:=F_ltie.binds (ps:=["_law_pot_here","_law_names_here","_law_sort"]) fun _ _ _ _ _ _ us hl=>match us,hl with | [_,_,_],_=>rfl
 have D_ltie:Df K mg "_law_tie" sLTie ["_law_pot_here","_law_names_here","_law_sort"] f22 _:=⟨F_ltie,PySem.W.mg_of X G a22,B_ltie⟩
 have F_web:=fun_mk (st:=sWeb) l23 c23 k23
 have B_web:=F_web.binds (ps:=["_law_pot_here"]) fun _ _ _ _ _ _ us hl=>match us,hl with | [_],_=>rfl
 have D_web:Df K mg "_law_web" sWeb ["_law_pot_here"] f23 _:=⟨F_web,PySem.W.mg_of X G a23,B_web⟩
 have F_cuts:=fun_mk (st:=sCuts) l24 c24 k24
 have B_cuts:=F_cuts.binds (ps:=["_law_names_here","_law_ties"]) fun _ _ _ _ _ _ us hl=>match us,hl with | [_,_],_=>rfl
 have D_cuts:Df K mg "_law_cuts" sCuts ["_law_names_here","_law_ties"] f24 _:=⟨F_cuts,PySem.W.mg_of X G a24,B_cuts⟩
 have F_tmy:=fun_mk (st:=sTMy) l25 c25 k25
 have B_tmy:=F_tmy.binds (ps:=["_law_web_here"]) fun _ _ _ _ _ _ us hl=>match us,hl with | [_],_=>rfl
 have D_tmy:Df K mg "_law_too_many" sTMy ["_law_web_here"] f25 _:=⟨F_tmy,PySem.W.mg_of X G a25,B_tmy⟩
 have F_ats:=fun_mk (st:=sATs) l26 c26 k26
 have B_ats:=F_ats.binds (ps:=["_law_found"]) fun _ _ _ _ _ _ us hl=>match us,hl with | [_],_=>rfl
 have D_ats:Df K mg "_law_are_tuples" sATs ["_law_found"] f26 _:=⟨F_ats,PySem.W.mg_of X G a26,B_ats⟩
 have F_jt:=fun_mk (st:=sJT) l27 c27 k27
 have B_jt:=F_jt.binds (ps:=["_law_pot_here"]) fun _ _ _ _ _ _ us hl=>match us,hl with | [_],_=>rfl
 have D_jt:Df K mg "_law_just_told" sJT ["_law_pot_here"] f27 _:=⟨F_jt,PySem.W.mg_of X G a27,B_jt⟩
 have F_law:=fun_mk (st:=sLaw22) l28 c28 k28
 have mg_E0:=PySem.W.mg_of X G xE0
 have mg_E7:=PySem.W.mg_of X G xE7
 have Ex_E7:Ex K mg "TooMany" E7:=⟨mg_E7,_,_,_,_,yE7,PySem.F.excBase_ValueError⟩
 have Xc_E7:ExcCl K E7:=⟨zE7_0,zE7_1,zE7_2,zE7_3,zE7_4,zE7_5⟩
 have mg_A1:=PySem.W.mg_of X G xA1
 have mg_A2:=PySem.W.mg_of X G xA2
 have mg_A3:=PySem.W.mg_of X G xA3
 have mg_A4:=PySem.W.mg_of X G xA4
 have mg_A5:=PySem.W.mg_of X G xA5
 have mg_A6:=PySem.W.mg_of X G xA6
 have mg_B1:=PySem.W.mg_of X G xB1
 have mg_B2:=PySem.W.mg_of X G xB2
 have mg_B3:=PySem.W.mg_of X G xB3
 have mg_B4:=PySem.W.mg_of X G xB4
 have m_divmod:=PySem.W.mg_none_of X G g_divmod
 have m_len:=PySem.W.mg_none_of X G g_len
 have m_all:=PySem.W.mg_none_of X G g_all
 have m_isinstance:=PySem.W.mg_none_of X G g_isinstance
 have m_str:=PySem.W.mg_none_of X G g_str
 have m_range:=PySem.W.mg_none_of X G g_range
 have m_max:=PySem.W.mg_none_of X G g_max
 have m_min:=PySem.W.mg_none_of X G g_min
 have m_bool:=PySem.W.mg_none_of X G g_bool
 have m_list:=PySem.W.mg_none_of X G g_list
 have m_int:=PySem.W.mg_none_of X G g_int
 have m_tuple:=PySem.W.mg_none_of X G g_tuple
 have m_set:=PySem.W.mg_none_of X G g_set
 have m_sorted:=PySem.W.mg_none_of X G g_sorted
 have m_abs:=PySem.W.mg_none_of X G g_abs
 have m_dict:=PySem.W.mg_none_of X G g_dict
 have m_ValueError:=PySem.W.mg_none_of X G g_ValueError
 have m_LONGEST:=PySem.W.mg_of X G g_LONGEST
 have m_MOST_PLACES:=PySem.W.mg_of X G g_MOST_PLACES
 have m_MOST_TIES:=PySem.W.mg_of X G g_MOST_TIES
 have m_MOST_CUTS:=PySem.W.mg_of X G g_MOST_CUTS
 have T:Glb mg:=⟨m_divmod,m_len,m_all,m_isinstance,m_str,m_range,m_max,m_min,m_bool,m_list,m_int,m_tuple,m_set,m_sorted,⟨_,m_LONGEST⟩,⟨_,m_MOST_PLACES⟩,⟨_,m_MOST_TIES⟩⟩
 have M:=Mt.mk W F_places Mm_places B_places F_ties Mm_ties B_ties
 have XX:Errs K mg E0 E7 A1 A2 A3 A4 A5 A6 B1 B2 B3 B4:=⟨mg_E0,Ex_E7,mg_A1,mg_A2,mg_A3,mg_A4,mg_A5,mg_A6,mg_B1,mg_B2,mg_B3,mg_B4,m_ValueError,exm_mk q1a q1b q1c,q2,q3,q4,q5,Xc_E7⟩
 exact ⟨PySem.W.fnOf "law" "law" (defArgs sLaw) (defBody sLaw) (defScope sLaw) .none kV28 dc28 pm28 an28 cd28 ct28,fun s v=>.of_eq rfl,fun base _ _=>law_all F_law F_init MkC B_init D_name D_among D_tie D_chkP D_chkT D_ckp M XX D_leads D_turned D_spread D_rea D_rs D_std D_both D_ac D_pot D_take D_word D_names D_ltie D_web D_cuts D_tmy D_ats D_jt m_abs m_dict ⟨_,m_MOST_CUTS⟩ T⟩
theorem walk {l:PySem.W.OpenLaw} {q:Program} {loose:List Str} {XP:(Str->Option Value)->Heap->Prop} {YP:World->Heap->Prop} {d:DefRec} {K:Params->PySem.W.Frag} (hn:l.most=some 63) (hdf:d.params.defaults=[])
  (hY:∀ (w:World) (h:Heap),YP w h->(K w.params).In h)
  (F:∀ (w:World) (mg:Str->Option Value) (fa:Addr) (h:Heap),(K w.params).In h->h.Ns mainGlobals mg->mg d.name=some (.ref fa) ->
   ∃ fd:FuncData,(∀ (s:Shared) (u:Value),BindsTo s fd ⟨[u],[]⟩ [("_law_script",u)])/\∀ base:Heap,(K w.params).In base->base.Ns mainGlobals mg->FnOk l.prog w (K w.params) mg base CX0 8 fa fd ["_law_script"] (spLaw (K w.params))) :
  PySem.W.WalkO q loose XP YP l.row.toRowW d [] (fun f vs=>PySem.call f vs) :=
 L2.walk_of (n:=63) (k:=8) (x:="_law_script") (CX:=fun _=>CX0) (sp:=fun w=>spLaw (K w.params)) hn (by decide) hdf ⟨rfl,by decide,by decide,rfl⟩ hY F (fun _ _ a ns hl _ hS=>⟨a,ns,rfl,hS,hl,fun _=>rfl⟩) fun _ _ _ _ _ z=>z
end K22
def PySem.W.Fast.tw5605131522936138732:Unit:=()
def PySem.W.Fast.tw3827306934453022939:Unit:=()
def PySem.W.Fast.tw11636118440349014764:Unit:=()
def PySem.W.Fast.tw4931515412127151050:Unit:=()
def PySem.W.Fast.tw10256296531798465395:Unit:=()
def PySem.W.Fast.tw3953687624948513014:Unit:=()
def PySem.W.Fast.tw1909747586302818312:Unit:=()
def PySem.W.Fast.tw13481371171876781644:Unit:=()
def PySem.W.Fast.tw11676045511691043187:Unit:=()
def PySem.W.Fast.tw17692233007199274514:Unit:=()
def PySem.W.Fast.tw8704655387112874493:Unit:=()
def PySem.W.Fast.tw6107429971765338671:Unit:=()
def PySem.W.Fast.tw13106145007429734613:Unit:=()
def PySem.W.Fast.tw10213508347448705602:Unit:=()
open PySem PySem.W PyProof.Rows
set_option maxRecDepth 100000 in
set_option maxHeartbeats 0 in
theorem PySem.Challenge.cw_cutmeet_k22_whole_all_cuts_holds : PySem.Challenge.rw_cutmeet_k22_whole_all_cuts.Holds := by
  w_on; o_law; k_head; (case hw => w_witness2)
  k_fill
  refine K22.walk (l := PySem.Challenge.rw_cutmeet_k22_whole_all_cuts) rfl rfl (fun w h Y => PySem.W.kIn_of Y) ?F
  case F =>
    intro w mg fa h KX G hmg
    refine' K22.all_mk KX G hmg ?aC ?a1 ?i1 ?l1 ?c1 ?k1 ?a2 ?i2 ?l2 ?c2 ?k2 ?a3 ?i3 ?l3 ?c3 ?k3 ?pg ?hd ?po ?sa ?mk ?kc ?nA0 ?nA1 ?a4 ?l4 ?c4 ?k4 ?a5 ?l5 ?c5 ?k5 ?a6 ?l6 ?c6 ?k6 ?a7 ?l7 ?c7 ?k7 ?a8 ?l8 ?c8 ?k8 ?a9 ?l9 ?c9 ?k9 ?a10 ?l10 ?c10 ?k10 ?a11 ?l11 ?c11 ?k11 ?a12 ?l12 ?c12 ?k12 ?a13 ?l13 ?c13 ?k13 ?a14 ?l14 ?c14 ?k14 ?a15 ?l15 ?c15 ?k15 ?a16 ?l16 ?c16 ?k16 ?a17 ?l17 ?c17 ?k17 ?a18 ?l18 ?c18 ?k18 ?a19 ?l19 ?c19 ?k19 ?a20 ?l20 ?c20 ?k20 ?a21 ?l21 ?c21 ?k21 ?a22 ?l22 ?c22 ?k22 ?a23 ?l23 ?c23 ?k23 ?a24 ?l24 ?c24 ?k24 ?a25 ?l25 ?c25 ?k25 ?a26 ?l26 ?c26 ?k26 ?a27 ?l27 ?c27 ?k27 ?a28 ?l28 ?c28 ?k28 ?xE0 ?xE7 ?yE7 ?zE7_0 ?zE7_1 ?zE7_2 ?zE7_3 ?zE7_4 ?zE7_5 ?xA1 ?xA2 ?xA3 ?xA4 ?xA5 ?xA6 ?xB1 ?xB2 ?xB3 ?xB4 ?g_divmod ?g_len ?g_all ?g_isinstance ?g_str ?g_range ?g_max ?g_min ?g_bool ?g_list ?g_int ?g_tuple ?g_set ?g_sorted ?g_abs ?g_dict ?g_ValueError ?g_LONGEST ?g_MOST_PLACES ?g_MOST_TIES ?g_MOST_CUTS ?q1a ?q1b ?q1c ?q2 ?q3 ?q4 ?q5
    (case aC => k_is)
    (case a1 => k_is)
    (case i1 => k_is)
    (case l1 => k_is)
    (case c1 => k_is)
    (case k1 => k_is)
    (case a2 => k_is)
    (case i2 => k_is)
    (case l2 => k_is)
    (case c2 => k_is)
    (case k2 => k_is)
    (case a3 => k_is)
    (case i3 => k_is)
    (case l3 => k_is)
    (case c3 => k_is)
    (case k3 => k_is)
    (case pg => k_is)
    (case hd => k_is)
    (case po => k_is)
    (case sa => k_is)
    (case mk => k_is)
    (case kc => k_is)
    (case nA0 => k_is)
    (case nA1 => k_is)
    (case a4 => k_is)
    (case l4 => k_is)
    (case c4 => k_is)
    (case k4 => k_is)
    (case a5 => k_is)
    (case l5 => k_is)
    (case c5 => k_is)
    (case k5 => k_is)
    (case a6 => k_is)
    (case l6 => k_is)
    (case c6 => k_is)
    (case k6 => k_is)
    (case a7 => k_is)
    (case l7 => k_is)
    (case c7 => k_is)
    (case k7 => k_is)
    (case a8 => k_is)
    (case l8 => k_is)
    (case c8 => k_is)
    (case k8 => k_is)
    (case a9 => k_is)
    (case l9 => k_is)
    (case c9 => k_is)
    (case k9 => k_is)
    (case a10 => k_is)
    (case l10 => k_is)
    (case c10 => k_is)
    (case k10 => k_is)
    (case a11 => k_is)
    (case l11 => k_is)
    (case c11 => k_is)
    (case k11 => k_is)
    (case a12 => k_is)
    (case l12 => k_is)
    (case c12 => k_is)
    (case k12 => k_is)
    (case a13 => k_is)
    (case l13 => k_is)
    (case c13 => k_is)
    (case k13 => k_is)
    (case a14 => k_is)
    (case l14 => k_is)
    (case c14 => k_is)
    (case k14 => k_is)
    (case a15 => k_is)
    (case l15 => k_is)
    (case c15 => k_is)
    (case k15 => k_is)
    (case a16 => k_is)
    (case l16 => k_is)
    (case c16 => k_is)
    (case k16 => k_is)
    (case a17 => k_is)
    (case l17 => k_is)
    (case c17 => k_is)
    (case k17 => k_is)
    (case a18 => k_is)
    (case l18 => k_is)
    (case c18 => k_is)
    (case k18 => k_is)
    (case a19 => k_is)
    (case l19 => k_is)
    (case c19 => k_is)
    (case k19 => k_is)
    (case a20 => k_is)
    (case l20 => k_is)
    (case c20 => k_is)
    (case k20 => k_is)
    (case a21 => k_is)
    (case l21 => k_is)
    (case c21 => k_is)
    (case k21 => k_is)
    (case a22 => k_is)
    (case l22 => k_is)
    (case c22 => k_is)
    (case k22 => k_is)
    (case a23 => k_is)
    (case l23 => k_is)
    (case c23 => k_is)
    (case k23 => k_is)
    (case a24 => k_is)
    (case l24 => k_is)
    (case c24 => k_is)
    (case k24 => k_is)
    (case a25 => k_is)
    (case l25 => k_is)
    (case c25 => k_is)
    (case k25 => k_is)
    (case a26 => k_is)
    (case l26 => k_is)
    (case c26 => k_is)
    (case k26 => k_is)
    (case a27 => k_is)
    (case l27 => k_is)
    (case c27 => k_is)
    (case k27 => k_is)
    (case a28 => k_is)
    (case l28 => k_is)
    (case c28 => k_is)
    (case k28 => k_is)
    (case xE0 => k_is)
    (case xE7 => k_is)
    (case yE7 => k_exc)
    (case zE7_0 => k_is)
    (case zE7_1 => k_is)
    (case zE7_2 => k_is)
    (case zE7_3 => k_is)
    (case zE7_4 => k_is)
    (case zE7_5 => k_is)
    (case xA1 => k_is)
    (case xA2 => k_is)
    (case xA3 => k_is)
    (case xA4 => k_is)
    (case xA5 => k_is)
    (case xA6 => k_is)
    (case xB1 => k_is)
    (case xB2 => k_is)
    (case xB3 => k_is)
    (case xB4 => k_is)
    (case g_divmod => k_is)
    (case g_len => k_is)
    (case g_all => k_is)
    (case g_isinstance => k_is)
    (case g_str => k_is)
    (case g_range => k_is)
    (case g_max => k_is)
    (case g_min => k_is)
    (case g_bool => k_is)
    (case g_list => k_is)
    (case g_int => k_is)
    (case g_tuple => k_is)
    (case g_set => k_is)
    (case g_sorted => k_is)
    (case g_abs => k_is)
    (case g_dict => k_is)
    (case g_ValueError => k_is)
    (case g_LONGEST => k_is)
    (case g_MOST_PLACES => k_is)
    (case g_MOST_TIES => k_is)
    (case g_MOST_CUTS => k_is)
    (case q1a => k_is)
    (case q1b => kit_is)
    (case q1c => rfl)
    (case q2 => kit_is)
    (case q3 => kit_is)
    (case q4 => kit_is)
    (case q5 => kit_is)
